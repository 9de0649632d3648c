import PyProof.Rows.All
import Wide.All
import OpenK.AllK
import Wide.FinOn
import KE.KStateDown
import KE.GoesMore
import KE.GoesEnum
import HandS.Iter
import HandS.TupLe
import HandS.Deep
import KE.KEqSeq
import KE.KEqDeep
import HandS.ForMost
import HandS.Exc
import HandS.More
import HandS.Wide
import HandS.Property
import HandS.WideBits
import HandS.Conv
import HandS.Codes
import HandS.IsInst
import HandS.Flow
import HandS.Defaults
import HandS.EndBits
import HandS.Head0
import HandS.Head1
import HandS.Head2
import KE.KExcIs
import HandS.HeadEnd
import HandS.HeadHook1
import HandS.HeadHook2
import HandS.NoneIn
import HandS.TupAny
import HandS.Style
import HandS.SortRule
import HandS.DictTup
import HandS.TupLe
import HandS.Deep
import PySem.Challenge.RW_formsalike_k38_bencode_refused
import HandS.ExcOwn
import HandS.ExcInit
import HandS.ExcField
import HandS.WordsExc
set_option Elab.async false
set_option linter.all false
set_option maxRecDepth 100000
set_option maxHeartbeats 4000000
namespace Fa
open PySem PySem.Spec L2 SX
open PyProof.Rows (envOfC)
open C8 (Cal pe_c Mak pe_mk Met pe_mt pe_mt0 pe_gc tCut pss_cut)
def top (i : Nat) : Stmt := PySem.Challenge.pw_formsalike_k38_bencode_refused.main.body.getD i (.Pass ⟨0, 0, 0, 0⟩)

/-! ### readings, a step each -/
section
variable {σ : St} {H : Hp} {n b c : St → Hp → Prop} {r : VK} {Q : VK} {K : PySem.W.Frag}
theorem r_seq {t u : TS} (h : t ⟨u ⟨n, r, b, c⟩, r, b, c⟩ σ H) : tSeq t u ⟨n, r, b, c⟩ σ H := h
theorem r_asg {te : TE} {g : TG} (h : te σ H fun x H1 => g x σ H1 n) : tAsg te g ⟨n, r, b, c⟩ σ H := h
theorem r_name {i : Nat} {v : V} {R : St → Hp → Prop} (h : R (σ.set i (some v)) H) : gName i v σ H R := h
theorem r_var {i : Nat} {v : V} (e : σ[i]? = some (some v)) (h : Q v H) : tVar i σ H Q := ⟨v, e, h⟩
theorem r_c {v : V} (h : Q v H) : tC v σ H Q := h
theorem r_op {r : R2} {ta tb : TE} (h : ta σ H fun x H1 => tb σ H1 fun y H2 => r x y H2 Q) : tOp r ta tb σ H Q := h
theorem r_un {r : V → Hp → VK → Prop} {ta : TE} (h : ta σ H fun x H1 => r x H1 Q) : tUn r ta σ H Q := h
theorem r_I0 {g : Int → Int → V} {i j : Int} (h : Q (g i j) H) : rI0 g (.int i) (.int j) H Q := ⟨i, j, rfl, rfl, h⟩
theorem r_I {C : Int → Int → Prop} {g : Int → Int → V} {i j : Int} (c : C i j) (h : Q (g i j) H) : rI C g (.int i) (.int j) H Q := ⟨i, j, rfl, rfl, c, h⟩
theorem r_U {g : Int → V} {i : Int} (h : Q (g i) H) : rU g (.int i) H Q := ⟨i, rfl, h⟩
theorem r_eqI {i j : Int} (h : Q (.bl (decide (i = j))) H) : rEq (.int i) (.int j) H Q := by
  have e : decide (V.int i = V.int j) = decide (i = j) := by simp
  exact ⟨rfl, by rw [e]; exact h⟩
theorem r_neI {i j : Int} (h : Q (.bl (!decide (i = j))) H) : rNe (.int i) (.int j) H Q := by
  have e : decide (V.int i = V.int j) = decide (i = j) := by simp
  exact ⟨rfl, by rw [e]; exact h⟩
theorem r_eqS {i j : Str} (h : Q (.bl (decide (i = j))) H) : rEq (.str i) (.str j) H Q := by
  have e : decide (V.str i = V.str j) = decide (i = j) := by simp
  exact ⟨rfl, by rw [e]; exact h⟩
theorem r_neS {i j : Str} (h : Q (.bl (!decide (i = j))) H) : rNe (.str i) (.str j) H Q := by
  have e : decide (V.str i = V.str j) = decide (i = j) := by simp
  exact ⟨rfl, by rw [e]; exact h⟩
theorem r_nil {R : List V → Hp → Prop} (h : R [] H) : tNil σ H R := h
theorem r_cons {te : TE} {t : TA} {R : List V → Hp → Prop} (h : te σ H fun x H1 => t σ H1 fun xs H2 => R (x :: xs) H2) : tCons te t σ H R := h
theorem r_drop {te : TE} (h : te σ H fun _ H1 => n σ H1) : tDrop te ⟨n, r, b, c⟩ σ H := h
theorem r_ret {te : TE} (h : te σ H r) : tRet te ⟨n, r, b, c⟩ σ H := h
theorem r_retN (h : r .non H) : tRetN ⟨n, r, b, c⟩ σ H := h
theorem r_next (h : n σ H) : tNext ⟨n, r, b, c⟩ σ H := h
theorem r_brk (h : b σ H) : tBreak ⟨n, r, b, c⟩ σ H := h
theorem r_if {e : TT} {t u : TS} (h : e σ H fun k H1 => if k = true then t ⟨n, r, b, c⟩ σ H1 else u ⟨n, r, b, c⟩ σ H1) : tIfS e t u ⟨n, r, b, c⟩ σ H := h
theorem r_ifE {c : TT} {ta tb : TE} (h : c σ H fun b H1 => if b = true then ta σ H1 Q else tb σ H1 Q) : tIf c ta tb σ H Q := h
theorem r_test {te : TE} {R : Bool → Hp → Prop} (h : te σ H fun x H' => ∃ k, x = .bl k ∧ R k H') : tTest te σ H R := h
theorem r_B {te : TE} {R : Bool → Hp → Prop} (h : te σ H fun x H' => ∃ k, x = .bl k ∧ R k H') : tB te σ H R := h
theorem r_bl {b : Bool} {R : Bool → Prop} (h : R b) : ∃ k, V.bl b = .bl k ∧ R k := ⟨b, rfl, h⟩
theorem r_and {t u : TT} {R : Bool → Hp → Prop} (h : t σ H fun c H1 => if c = true then u σ H1 R else R false H1) : tAnd t u σ H R := h
theorem r_or {t u : TT} {R : Bool → Hp → Prop} (h : t σ H fun c H1 => if c = true then R true H1 else u σ H1 R) : tOr t u σ H R := h
theorem r_not {t : TT} {R : Bool → Hp → Prop} (h : t σ H fun c H1 => R (!c) H1) : tNot t σ H R := h
theorem r_andV {ta tb : TE} (h : ta σ H fun x H1 => ∃ c, x = .bl c ∧ if c = true then tb σ H1 Q else Q (.bl false) H1) : tAndV ta tb σ H Q := h
theorem r_orV {ta tb : TE} (h : ta σ H fun x H1 => ∃ c, x = .bl c ∧ if c = true then Q (.bl true) H1 else tb σ H1 Q) : tOrV ta tb σ H Q := h
theorem r_notV {ta : TE} (h : ta σ H fun x H1 => ∃ c, x = .bl c ∧ Q (.bl (!c)) H1) : tNotV ta σ H Q := h
theorem r_chain {r r' : R2} {ta tb tc : TE} (h : ta σ H fun x H1 => tb σ H1 fun y H2 => r x y H2 fun z H3 => ∃ k, z = .bl k ∧ (if k = true then tc σ H3 fun w' H4 => r' y w' H4 Q else Q (.bl false) H3)) : tChain r r' ta tb tc σ H Q := h
theorem r_tup {t : TA} (h : t σ H fun xs H1 => xs.length ≤ sizeLine ∧ ∀ p, H1 p = none → Q (.ref p) (upd H1 p (.tup xs))) : tTup t σ H Q := h
theorem r_lst {t : TA} (h : t σ H fun xs H1 => xs.length ≤ sizeLine ∧ ∀ p, H1 p = none → Q (.ref p) (upd H1 p (.lst xs))) : tLst t σ H Q := h
theorem r_call {sp : Sp} {dvs : List V} {E : XK} {t : TA} (h : t σ H fun vs H1 => sp (vs ++ dvs) H1 Q E) : tCall sp dvs E t σ H Q := h
theorem r_CB {r : List V → Hp → VK → Prop} {t : TA} (h : t σ H fun vs H1 => r vs H1 Q) : tCB r t σ H Q := h
theorem r_ixL {p : Addr} {xs : List V} {i : Int} {v : V} (hs : SqL K H p xs) (e : atI xs i = some v) (h : Q v H) : rIxL K (.ref p) (.int i) H Q := ⟨p, xs, i, v, rfl, rfl, hs, e, h⟩
theorem r_ixT {p : Addr} {xs : List V} {i : Int} {v : V} (hs : SqT K H p xs) (e : atI xs i = some v) (h : Q v H) : rIxT K (.ref p) (.int i) H Q := ⟨p, xs, i, v, rfl, rfl, hs, e, h⟩
theorem r_ite {p : Prop} [Decidable p] {A B : Prop} (h1 : p → A) (h2 : ¬ p → B) : if decide p = true then A else B := by
  by_cases c : p
  · rw [if_pos (decide_eq_true c)]
    exact h1 c
  · rw [if_neg (by simp [c])]
    exact h2 c
theorem r_iten {p : Prop} [Decidable p] {A B : Prop} (h1 : ¬ p → A) (h2 : p → B) : if (!decide p) = true then A else B := by
  by_cases c : p
  · rw [if_neg (by simp [c])]
    exact h2 c
  · rw [if_pos (by simp [c])]
    exact h1 c
theorem r_itep {p : Prop} [Decidable p] {A B : Prop} (c : p) (h : A) : if decide p = true then A else B := by
  rw [if_pos (decide_eq_true c)]
  exact h
theorem r_iteN {p : Prop} [Decidable p] {A B : Prop} (c : ¬ p) (h : B) : if decide p = true then A else B := by
  rw [if_neg (by simp [c])]
  exact h
theorem r_iteF {A B : Prop} (h : B) : if false = true then A else B := by
  rw [if_neg Bool.false_ne_true]
  exact h
theorem r_iteT {A B : Prop} (h : A) : if true = true then A else B := by
  rw [if_pos rfl]
  exact h
theorem r_iteNT {A B : Prop} (h : B) : if (!true) = true then A else B := by
  rw [if_neg (by decide)]
  exact h
theorem r_iteNF {A B : Prop} (h : A) : if (!false) = true then A else B := by
  rw [if_pos (by decide)]
  exact h
theorem r_no {p : Prop} [Decidable p] {A B : Prop} (c : p) (h : B) : if (!decide p) = true then A else B := by
  rw [if_neg (by simp [c])]
  exact h
/-- a for over a written range(m) -/
theorem r_forN {v : Int} {g : TG} {tb : TS} (m : Nat) (e : v = (m : Int)) (hn : m < 2 ^ 62) (Pv : Nat → St → Hp → Prop) (h0 : Pv 0 σ H)
    (hs : ∀ (i : Nat) σ H, i < m → Pv i σ H → g (.int (i : Int)) σ H fun σ2 H2 => tb ⟨Pv (i + 1), r, n, Pv (i + 1)⟩ σ2 H2) (hd : ∀ σ H, Pv m σ H → n σ H) : tFor (iRng1 (tCons (tC (.int v)) tNil)) g tb ⟨n, r, b, c⟩ σ H := by
  subst e
  refine ⟨(m : Int), rfl, by omega, by omega, for_range Pv h0 (fun i σ H hi p => ?_) hd⟩
  rw [Int.zero_add]
  exact hs i σ H (by omega) p
/-- a for over range(v), v in a slot -/
theorem r_forV {v : Int} {k : Nat} {g : TG} {tb : TS} (e : σ[k]? = some (some (.int v))) (h1 : -(2 ^ 62) ≤ v) (h2 : v < 2 ^ 62) (Pv : Nat → St → Hp → Prop) (h0 : Pv 0 σ H)
    (hs : ∀ (i : Nat) σ H, (i : Int) < v → Pv i σ H → g (.int (i : Int)) σ H fun σ2 H2 => tb ⟨Pv (i + 1), r, n, Pv (i + 1)⟩ σ2 H2) (hd : ∀ σ H, Pv v.toNat σ H → n σ H) : tFor (iRng1 (tCons (tVar k) tNil)) g tb ⟨n, r, b, c⟩ σ H := by
  refine ⟨_, e, v, rfl, h1, h2, for_range Pv h0 (fun i σ H hi p => ?_) hd⟩
  rw [Int.zero_add]
  exact hs i σ H (by omega) p
/-- a for over range(e), the turns behind its reading -/
theorem r_for {wi : TI} {g : TG} {tb : TS} (h : wi σ H fun J H1 => ∃ W : Nat → Nat → St → Hp → Prop, (∃ m, W 0 m σ H1) ∧ ∀ i m σ H, W i m σ H →
    (J.stop i H ∧ n σ H) ∨ (J.go i H ∧ ∃ N : St → Hp → Prop, (∀ σ' H', N σ' H' → ∃ m', m' < m ∧ W (i + 1) m' σ' H') ∧ ∀ x H', J.yld i H x H' → g x σ H' fun σ2 H2 => tb ⟨N, r, n, N⟩ σ2 H2)) : tFor wi g tb ⟨n, r, b, c⟩ σ H := h
theorem r_rng1 {ta : TA} {R : It → Hp → Prop} (h : ta σ H fun vs H1 => ∃ j : Int, vs = [.int j] ∧ -(2 ^ 62) ≤ j ∧ j < 2 ^ 62 ∧ R (Itr 0 j.toNat) H1) : iRng1 ta σ H R := h
/-- .. the turns -/
theorem r_turns {j : Int} {g : TG} {tb : TS} (h1 : -(2 ^ 62) ≤ j) (h2 : j < 2 ^ 62) (Pv : Nat → St → Hp → Prop) (h0 : Pv 0 σ H)
    (hs : ∀ (i : Nat) σ H, (i : Int) < j → Pv i σ H → g (.int (i : Int)) σ H fun σ2 H2 => tb ⟨Pv (i + 1), r, n, Pv (i + 1)⟩ σ2 H2) (hd : ∀ σ H, Pv j.toNat σ H → n σ H) :
    -(2 ^ 62) ≤ j ∧ j < 2 ^ 62 ∧ ∃ W : Nat → Nat → St → Hp → Prop, (∃ m, W 0 m σ H) ∧ ∀ i m σ H, W i m σ H →
    ((Itr 0 j.toNat).stop i H ∧ n σ H) ∨ ((Itr 0 j.toNat).go i H ∧ ∃ N : St → Hp → Prop, (∀ σ' H', N σ' H' → ∃ m', m' < m ∧ W (i + 1) m' σ' H') ∧ ∀ x H', (Itr 0 j.toNat).yld i H x H' → g x σ H' fun σ2 H2 => tb ⟨N, r, n, N⟩ σ2 H2) := by
  refine ⟨h1, h2, for_range (D := ⟨n, r, fun _ _ => False, fun _ _ => False⟩) Pv h0 (fun i σ H hi p => ?_) hd⟩
  rw [Int.zero_add]
  exact hs i σ H (by omega) p
theorem r_while {e : TT} {tb : TS} (W : Nat → St → Hp → Prop) (m : Nat) (h0 : W m σ H)
    (hs : ∀ m σ H, W m σ H → e σ H fun k H1 => if k = true then ∃ N : St → Hp → Prop, (∀ σ' H', N σ' H' → ∃ m', m' < m ∧ W m' σ' H') ∧ tb ⟨N, r, n, N⟩ σ H1 else n σ H1) : tWhile e tb ⟨n, r, b, c⟩ σ H := ⟨W, ⟨m, h0⟩, hs⟩
theorem r_turn {tb : TS} {W : Nat → St → Hp → Prop} {m : Nat} (h : tb ⟨fun σ' H' => ∃ m', m' < m ∧ W m' σ' H', r, n, fun σ' H' => ∃ m', m' < m ∧ W m' σ' H'⟩ σ H) :
    ∃ N : St → Hp → Prop, (∀ σ' H', N σ' H' → ∃ m', m' < m ∧ W m' σ' H') ∧ tb ⟨N, r, n, N⟩ σ H := ⟨_, fun _ _ h => h, h⟩
end
/-! ### promises by the number of arguments -/
def sp1 (f : V → Hp → VK → XK → Prop) : Sp := fun vs H Q E => ∃ a, vs = [a] ∧ f a H Q E
def sp2 (f : V → V → Hp → VK → XK → Prop) : Sp := fun vs H Q E => ∃ a b, vs = [a, b] ∧ f a b H Q E
def sp3 (f : V → V → V → Hp → VK → XK → Prop) : Sp := fun vs H Q E => ∃ a b c, vs = [a, b, c] ∧ f a b c H Q E
def sp4 (f : V → V → V → V → Hp → VK → XK → Prop) : Sp := fun vs H Q E => ∃ a b c d, vs = [a, b, c, d] ∧ f a b c d H Q E
def sp5 (f : V → V → V → V → V → Hp → VK → XK → Prop) : Sp := fun vs H Q E => ∃ a b c d e, vs = [a, b, c, d, e] ∧ f a b c d e H Q E
def sp6 (f : V → V → V → V → V → V → Hp → VK → XK → Prop) : Sp := fun vs H Q E => ∃ a b c d e g, vs = [a, b, c, d, e, g] ∧ f a b c d e g H Q E
theorem len5 {f} (vs : List V) (H : Hp) (Q : VK) (E : XK) (h : sp5 f vs H Q E) : vs.length = 5 := by
  obtain ⟨_, _, _, _, _, rfl, _⟩ := h
  rfl
theorem len6 {f} (vs : List V) (H : Hp) (Q : VK) (E : XK) (h : sp6 f vs H Q E) : vs.length = 6 := by
  obtain ⟨_, _, _, _, _, _, rfl, _⟩ := h
  rfl
theorem len1 {f} (vs : List V) (H : Hp) (Q : VK) (E : XK) (h : sp1 f vs H Q E) : vs.length = 1 := by
  obtain ⟨_, rfl, _⟩ := h
  rfl
theorem len2 {f} (vs : List V) (H : Hp) (Q : VK) (E : XK) (h : sp2 f vs H Q E) : vs.length = 2 := by
  obtain ⟨_, _, rfl, _⟩ := h
  rfl
theorem len3 {f} (vs : List V) (H : Hp) (Q : VK) (E : XK) (h : sp3 f vs H Q E) : vs.length = 3 := by
  obtain ⟨_, _, _, rfl, _⟩ := h
  rfl
theorem len4 {f} (vs : List V) (H : Hp) (Q : VK) (E : XK) (h : sp4 f vs H Q E) : vs.length = 4 := by
  obtain ⟨_, _, _, _, rfl, _⟩ := h
  rfl
/-- a def's promise from its body -/
theorem calD {P : Program} {w : World} {K : PySem.W.Frag} {mg : Str → Option Value} {base : Heap} {x qual : Str} {params : Arguments} {body : List Stmt} {scope : Scope} {f : Addr} {fd : FuncData} {N ps : List Str} {k : Nat} {sp : Sp}
    (F : FunD K x qual params body scope [] [] f fd) (m : mg x = some (.ref f)) (S : FnScope N ps scope)
    (hb : ∀ (kV doc pm : Value) (an : Option Addr) (cdv ct : Value) (us : List Value), us.length = ps.length → bindArgs (PySem.W.fnOf x qual params body scope .none kV doc pm an cdv ct) ⟨us, []⟩ = pure (ps.zip us))
    (len : ∀ vs H Q E, sp vs H Q E → vs.length = ps.length)
    (hbody : ∀ (cdv : Value) (A : Around) (outer : List Env) (s : Shared) (H : Hp) (vs : List V) (Q : VK) (E : XK), Room k (A.deeper (envOfC qual scope s.heap.objs.size f cdv)) → sp vs H Q E →
      ∃ t, PSs (cxOf CX0 P w K mg base N qual scope f cdv A outer s H E).nox body t ∧ t { nx := fun _ H' => Q .non H', rt := Q } (start N vs) H) : Cal P w K mg base (k + 1) x sp [] :=
  ⟨f, fd, ps, [], F.ok S len fun cdv A outer s H vs Q E hr h => by
    obtain ⟨t, h1, h2⟩ := hbody cdv A outer s H vs Q E hr h
    exact ⟨t, h1.nox, h2⟩, m, F.kp, F.bindsN hb, .nil⟩
theorem fnD {P : Program} {w : World} {K : PySem.W.Frag} {mg : Str → Option Value} {base : Heap} {x qual : Str} {params : Arguments} {body : List Stmt} {scope : Scope} {f : Addr} {fd : FuncData} {N ps : List Str} {k : Nat} {sp : Sp}
    (F : FunD K x qual params body scope [] [] f fd) (S : FnScope N ps scope) (len : ∀ vs H Q E, sp vs H Q E → vs.length = ps.length)
    (hbody : ∀ (cdv : Value) (A : Around) (outer : List Env) (s : Shared) (H : Hp) (vs : List V) (Q : VK) (E : XK), Room k (A.deeper (envOfC qual scope s.heap.objs.size f cdv)) → sp vs H Q E →
      ∃ t, PSs (cxOf CX0 P w K mg base N qual scope f cdv A outer s H E).nox body t ∧ t { nx := fun _ H' => Q .non H', rt := Q } (start N vs) H) : FnOk P w K mg base CX0 (k + 1) f fd ps sp :=
  F.ok S len fun cdv A outer s H vs Q E hr h => by
    obtain ⟨t, h1, h2⟩ := hbody cdv A outer s H vs Q E hr h
    exact ⟨t, h1.nox, h2⟩
theorem conI {K : PySem.W.Frag} {h : Heap} {mg : Str → Option Value} {x : Str} {i : Int} (X : K.In h) (G : h.Ns mainGlobals mg) (c : (He.Fa.int x i).ok K = true) : ∃ u, mg x = some u ∧ RelV (.int i) u := by
  obtain ⟨t, e⟩ := He.int_ok X G c
  exact ⟨_, e, t, rfl⟩
theorem conS {K : PySem.W.Frag} {h : Heap} {mg : Str → Option Value} {x z : Str} (X : K.In h) (G : h.Ns mainGlobals mg) (c : (He.Fa.str x z).ok K = true) : ∃ u, mg x = some u ∧ RelV (.str z) u := by
  obtain ⟨t, e⟩ := He.str_ok X G c
  exact ⟨_, e, t, rfl⟩

/-! ### more readings -/
section
variable {σ : St} {H : Hp} {n b c : St → Hp → Prop} {r : VK} {Q : VK}
theorem r_cut {t u : TS} (Mid : St → Hp → Prop) (h1 : t ⟨Mid, r, b, c⟩ σ H) (h2 : ∀ σ' H', Mid σ' H' → u ⟨n, r, b, c⟩ σ' H') : tCut t u ⟨n, r, b, c⟩ σ H := ⟨Mid, h1, h2⟩
end
section
variable {σ : St} {H : Hp} {Q : VK} {K : PySem.W.Frag}
theorem r_yes {R : Bool → Hp → Prop} (h : R true H) : tYes σ H R := h
theorem r_isi {x : V} {c d : String} {b : Bool} (t : TyX K H x (.type d)) (e : kitB d c = some b) (h : Q (.bl b) H) : rIsi K [x, .ty c] H Q := ⟨x, .ty c, .type d, .type c, b, rfl, .ty c, t, kit_ty e, h⟩
theorem r_neD {x y : V} {d e : PyData} (h1 : Dp K H x d) (h2 : Dp K H y e) (s1 : SeqAt.shaped d = true) (s2 : SeqAt.shaped e = true) (h : Q (.bl (!PyData.eqv d e)) H) : rNeD K x y H Q := ⟨d, e, h1, h2, s1, s2, h⟩
theorem r_eqD {x y : V} {d e : PyData} (h1 : Dp K H x d) (h2 : Dp K H y e) (s1 : SeqAt.shaped d = true) (s2 : SeqAt.shaped e = true) (h : Q (.bl (PyData.eqv d e)) H) : rEqD K x y H Q := ⟨d, e, h1, h2, s1, s2, h⟩
theorem eqv_same {d : PyData} (s : SeqAt.shaped d = true) : PyData.eqv d d = true := SeqAt.eqv_refl d (Bool.and_eq_true_iff.mp s).1
/-- the same data on both sides -/
theorem r_neDs {x y : V} {d : PyData} (h1 : Dp K H x d) (h2 : Dp K H y d) (s : SeqAt.shaped d = true) (h : Q (.bl false) H) : rNeD K x y H Q := r_neD h1 h2 s s (by rw [eqv_same s]; exact h)
theorem r_eqDs {x y : V} {d : PyData} (h1 : Dp K H x d) (h2 : Dp K H y d) (s : SeqAt.shaped d = true) (h : Q (.bl true) H) : rEqD K x y H Q := r_eqD h1 h2 s s (by rw [eqv_same s]; exact h)
theorem r_rfl {v : V} {B : Prop} (h : B) : v = v ∧ B := ⟨rfl, h⟩
theorem r_gtup {p : Addr} {xs : List V} {n : Nat} {t : TGs} {R : St → Hp → Prop} (hs : SqT K H p xs) (hl : xs.length = n) (h : t xs σ H R) : gTup K n t (.ref p) σ H R := ⟨p, xs, rfl, hs, hl, h⟩
theorem r_gcons {t : TG} {u : TGs} {v : V} {vs : List V} {R : St → Hp → Prop} (h : t v σ H fun σ' H' => u vs σ' H' R) : gCons t u (v :: vs) σ H R := ⟨v, vs, rfl, h⟩
theorem r_gnil {R : St → Hp → Prop} (h : R σ H) : gNil [] σ H R := ⟨rfl, h⟩
theorem r_iteC {p : Prop} [Decidable p] {a b : Int} (h : Q (.int (if p then a else b)) H) : if decide p = true then tC (.int a) σ H Q else tC (.int b) σ H Q := by
  by_cases c : p
  · rw [if_pos (decide_eq_true c)]
    rw [if_pos c] at h
    exact h
  · rw [if_neg (by simp [c])]
    rw [if_neg c] at h
    exact h
theorem r_iteJ {p : Prop} [Decidable p] {ta tb : TE} (v : V) (h1 : p → ∀ R : VK, R v H → ta σ H R) (h2 : ¬ p → ∀ R : VK, R v H → tb σ H R) (h : Q v H) : if decide p = true then ta σ H Q else tb σ H Q := by
  by_cases c : p
  · rw [if_pos (decide_eq_true c)]
    exact h1 c Q h
  · rw [if_neg (by simp [c])]
    exact h2 c Q h
theorem r_max2 {p : Addr} {x y : Int} (hs : H p = some (.lst [.int x, .int y])) (h : Q (.int (max x y)) H) : rMax K [.ref p] H Q := by
  refine ⟨p, [x, y], rfl, SqL.of hs, by show 0 < 2; decide, fun m hm hle => ?_⟩
  have h1 := hle x (by simp)
  have h2 := hle y (by simp)
  have e : m = max x y := by
    rcases List.mem_cons.mp hm with e | e
    · omega
    · rcases List.mem_cons.mp e with e | e
      · omega
      · cases e
  rw [e]
  exact h
theorem r_lam1 {x : V} {R : V → Prop} (h : R x) : ∃ i, [x] = [i] ∧ R i := ⟨x, rfl, h⟩
theorem r_abs {x : Int} {R : Int → Prop} (h : R x) : ∃ i, [V.int x] = [V.int i] ∧ R i := ⟨x, rfl, h⟩
theorem r_int1 {x : Int} {R : Int → Prop} {B : Prop} (h : R x) : (∃ i, [V.int x] = [V.int i] ∧ R i) ∨ B := .inl ⟨x, rfl, h⟩
theorem r_bm {T : String} {r : V → List V → Hp → VK → Prop} {to : TE} {t : TA} (h : to σ H fun x H1 => tyV K T x H1 ∧ t σ H1 fun xs H2 => r x xs H2 Q) : tBM K T r to t σ H Q := h
theorem r_bm0 {T : String} {r : V → List V → Hp → VK → Prop} {to : TE} (h : to σ H fun x H1 => tyV K T x H1 ∧ r x [] H1 Q) : tBM0 K T r to σ H Q := h
theorem tyL {p : Addr} {xs : List V} (h : H p = some (.lst xs)) : tyV K "list" (.ref p) H := Or.inl ⟨rfl, _, SqL.of h⟩
theorem r_app {p : Addr} {xs : List V} {y : V} (h : H p = some (.lst xs)) (hl : xs.length < sizeLine) (q : Q .non (upd H p (.lst (xs ++ [y])))) : rAppend (.ref p) [y] H Q := ⟨p, xs, y, rfl, rfl, h, hl, q⟩
theorem r_sub {to ti : TE} {t : TSet} {v : V} {R : St → Hp → Prop} (h : to σ H fun o H1 => ti σ H1 fun i H2 => t o i v H2 fun H3 => R σ H3) : gSub to ti t v σ H R := h
theorem r_setL {p : Addr} {xs : List V} {k : Int} {j : Nat} {v : V} {R : Hp → Prop} (h : H p = some (.lst xs)) (e : ixN xs.length k = some j) (q : R (upd H p (.lst (xs.set j v)))) : rSetL (.ref p) (.int k) v H R := ⟨p, xs, k, j, rfl, rfl, h, e, q⟩
theorem r_lcR {ta : TA} {g : TG} {tt : TT} {te : TE} {vs : List Nat} (n : Nat) (hn : n < 2 ^ 62)
    (h : ∀ D, H D = none → ∃ W : Nat → Nat → Hp → Prop, (∃ m, W 0 m (upd H D (.lst []))) ∧ ∀ i m H, W i m H →
      ((Itr 0 n).stop i H ∧ Q (.ref D) H) ∨ ((Itr 0 n).go i H ∧ ∃ Nx : Hp → Prop, (∀ H', Nx H' → ∃ m', m' < m ∧ W (i + 1) m' H') ∧ ∀ x H', (Itr 0 n).yld i H x H' → g x (wipe σ vs) H' fun σ2 H2 => wipe σ2 vs = wipe σ vs ∧ tt σ2 H2 fun b H3 =>
        if b = true then te σ2 H3 fun y H4 => ∃ acc, H4 D = some (.lst acc) ∧ acc.length < sizeLine ∧ Nx (upd H4 D (.lst (acc ++ [y]))) else Nx H3))
    (he : ∀ R : List V → Hp → Prop, R [.int (n : Int)] H → ta σ H R) : tLc (iRng1 ta) g tt te vs σ H Q := by
  refine he _ ⟨(n : Int), rfl, by omega, by omega, ?_⟩
  have e : ((n : Int)).toNat = n := by omega
  rw [e]
  exact h
theorem same_upd {H : Hp} {p : Addr} (h : H p = none) (o : HO) : Same H (upd H p o) := fun b u q => by
  rw [upd_ne (ne_of_none q h)]
  exact q
theorem seq_upd {p b : Addr} {xs : List V} {o : HO} (h : SqL K H b xs) (hn : b ≠ p) : SqL K (upd H p o) b xs := by
  rcases h with (h | ⟨u, h⟩) | h
  · exact .inl (.inl ((upd_ne hn).trans h))
  · exact .inl (.inr ⟨u, (upd_ne hn).trans h⟩)
  · exact .inr h
theorem atI_ints {ns : List Int} {k : Int} (h0 : 0 ≤ k) (h1 : k < (ns.length : Int)) : ∃ v, v ∈ ns ∧ atI (ns.map V.int) k = some (.int v) := by
  have hk : k.toNat < ns.length := by omega
  have ek : k = ((k.toNat : Nat) : Int) := by omega
  have q : atI (ns.map V.int) ((k.toNat : Nat) : Int) = some (.int ns[k.toNat]) := atI_nat (by rw [List.getElem?_map, List.getElem?_eq_getElem hk] <;> rfl)
  rw [← ek] at q
  exact ⟨ns[k.toNat], List.getElem_mem hk, q⟩
end

/-! ### what the program's top leaves, looked at: its defs by their addresses, facts, written data; the statics too -/
abbrev Frg := PySem.W.Frag
/-- the getter of a property of a class -/
def prAd (C f : Str) (K : Frg) : Addr := match PySem.W.recIn K (He.ma K (He.ga K C) f) "property" with
  | some (.ref g :: _) => g
  | _ => 0
def glAd (x : Str) (K : Frg) : Addr := He.ga K x
def meAd (C m : Str) (K : Frg) : Addr := He.ma K (He.ga K C) m
structure DefM where
  ad : Frg → Addr
  nm : Str
  ql : Str
  pa : Arguments
  bo : List Stmt
  sc : Scope
  df : List He.Dv := []
def seeM (K : Frg) (d : DefM) : He.FnW := match K.lookup (d.ad K) with
  | some ⟨_, _, .func u, _⟩ => some (u.name, u.qualname, u.params, u.body, u.scope, u.globals, u.closure, u.builtins)
  | _ => none
def dueM (d : DefM) : He.FnW := some (d.nm, d.ql, d.pa, .stmts d.bo, d.sc, mainGlobals, [], builtinsNs)
def okM (K : Frg) (d : DefM) : Bool := PySem.W.keepIn K (.ref (d.ad K)) && (match K.lookup (d.ad K) with
  | some ⟨_, _, .func u, _⟩ => PySem.W.codeIn K u.code d.ql && He.dflB K u.defaults (d.df.map (He.Dv.v K))
  | _ => false)
theorem both {a b : Bool} (h : (a && b) = true) : a = true ∧ b = true := Bool.and_eq_true_iff.mp h
theorem funM {K : Frg} {d : DefM} (e : seeM K d = dueM d) (c : okM K d = true) : ∃ fd, FunD K d.nm d.ql d.pa d.bo d.sc (d.df.map (He.Dv.v K)) [] (d.ad K) fd := by
  have kp := (both c).1
  have c2 := (both c).2
  unfold seeM dueM at e
  split at c2
  · rename_i x1 x2 u x3 hL
    rw [hL] at e
    obtain ⟨n1, n2, n3, n4, n5, n6, n7, n8, n9, n10, n11, n12, n13, n14, n15⟩ := u
    simp only [Option.some.injEq, Prod.mk.injEq] at e
    obtain ⟨h1, h2, h3, h4, h5, h6, h7, h8⟩ := e
    subst h1 h2 h3 h4 h5 h6 h7 h8
    have k := both c2
    exact ⟨_, ⟨x1, x2, n8, n9, n10, n11, n12, n13, n14, x3, rfl, hL, k.1, He.dflB_ok k.2, .inl rfl⟩, kp⟩
  · cases c2
/-- written data: none, truths, integers, texts, lists and tuples of them -/
def datB (K : Frg) : Nat → Value → PyData → Bool
  | 0, _, _ => false
  | n + 1, u, d => match u, d with
    | .none, .none => true
    | .bool b, .bool c => b == c
    | .int i _, .int j => decide (i = j)
    | .str x _, .str y => decide (x = y)
    | .ref a, .tuple ds => (match K.lookup a with
      | some ⟨.type c, _, .seq its _, _⟩ => decide (c = "tuple") && (decide (its.size ≤ sizeLine) && datAll (fun u d => datB K n u d) its.toList ds)
      | _ => false)
    | _, _ => false
where datAll (f : Value → PyData → Bool) : List Value → List PyData → Bool
  | [], [] => true
  | u :: us, d :: ds => f u d && datAll f us ds
  | _, _ => false
theorem datAll_ok {K : Frg} {f : Value → PyData → Bool} (hf : ∀ u d, f u d = true → ∃ x, RelV x u ∧ ∀ H, Dp K H x d) : ∀ (us : List Value) (ds : List PyData), datB.datAll f us ds = true → ∃ xs, Vals xs us ∧ ∀ H, DpAll K H xs ds
  | [], [], _ => ⟨[], .nil, fun _ => .nil⟩
  | u :: us, d :: ds, h => by
    unfold datB.datAll at h
    obtain ⟨x, r, k⟩ := hf u d (both h).1
    obtain ⟨xs, rs, ks⟩ := datAll_ok hf us ds (both h).2
    exact ⟨x :: xs, .cons r rs, fun H => .cons (k H) (ks H)⟩
  | [], _ :: _, h => by cases h
  | _ :: _, [], h => by cases h
theorem datB_ok {K : Frg} : ∀ (n : Nat) (u : Value) (d : PyData), datB K n u d = true → ∃ x, RelV x u ∧ ∀ H, Dp K H x d
  | 0, _, _, h => by cases h
  | n + 1, u, d, h => by
    unfold datB at h
    match u, d, h with
    | .none, .none, _ => exact ⟨.non, rfl, fun _ => .non⟩
    | .bool b, .bool c, h =>
      have e : b = c := eq_of_beq h
      subst e
      exact ⟨.bl b, rfl, fun _ => .bl b⟩
    | .int i t, .int j, h =>
      have e : i = j := of_decide_eq_true h
      subst e
      exact ⟨.int i, ⟨t, rfl⟩, fun _ => .int i⟩
    | .str x t, .str y, h =>
      have e : x = y := of_decide_eq_true h
      subst e
      exact ⟨.str x, ⟨t, rfl⟩, fun _ => .str x⟩
    | .ref a, .tuple ds, h =>
      have h' : (match K.lookup a with
        | some ⟨.type c, _, .seq its _, _⟩ => decide (c = "tuple") && (decide (its.size ≤ sizeLine) && datB.datAll (fun u d => datB K n u d) its.toList ds)
        | _ => false) = true := h
      split at h'
      · rename_i c x2 its m x3 hL
        have h1 := (both h').1
        have h2 := (both (both h').2).1
        obtain ⟨xs, rs, ks⟩ := datAll_ok (datB_ok n) its.toList ds (both (both h').2).2
        exact ⟨.ref a, rfl, fun H => .tup (.inr ⟨_, its, m, hL, congrArg Value.type (of_decide_eq_true h1), rfl, of_decide_eq_true h2, rs⟩) (ks H)⟩
      · cases h'
/-- a name of the module that stands for such data -/
def conB (K : Frg) (x : Str) (d : PyData) : Bool := match PySem.W.nsIn K mainGlobals x with
  | some (some u) => datB K 8 u d
  | _ => false
theorem conM {K : Frg} {h : Heap} {mg : Str → Option Value} {x : Str} {d : PyData} (X : K.In h) (G : h.Ns mainGlobals mg) (c : conB K x d = true) : ∃ v u, mg x = some u ∧ RelV v u ∧ ∀ H, Dp K H v d := by
  unfold conB at c
  split at c
  · rename_i u hL
    obtain ⟨v, r, k⟩ := datB_ok 8 u d c
    exact ⟨v, u, PySem.W.mg_of X G hL, r, k⟩
  · cases c
/-- a property of a class -/
def prB (K : Frg) (C f : Str) : Bool := He.eqO (PySem.W.findIn K (.ref (He.ga K C)) f) (some (some (.ref (He.ma K (He.ga K C) f)))) &&
  (He.eqO (PySem.W.specialIn K (.ref (He.ma K (He.ga K C) f)) "__get__") (some (some (.builtin "property.__get__"))) && (decide (PySem.W.takesIn K (.ref (He.ma K (He.ga K C) f)) = some true) &&
  (match PySem.W.recIn K (He.ma K (He.ga K C) f) "property" with
    | some (.ref _ :: _) => true
    | _ => false)))
theorem prM {K : Frg} {C f : Str} (h : prB K C f = true) : PropOf K (He.ga K C) f (He.ma K (He.ga K C) f) (prAd C f K) := by
  obtain ⟨h1, h⟩ := both h
  obtain ⟨h2, h⟩ := both h
  obtain ⟨h3, h4⟩ := both h
  refine ⟨He.eqO_ok h1, He.eqO_ok h2, of_decide_eq_true h3, ?_⟩
  unfold prAd
  split at h4
  · rename_i g r hL
    rw [hL]
    exact ⟨r, rfl⟩
  · cases h4
/-- no limit of digits is set -/
def digB (K : Frg) : Bool := PySem.W.nsOkIn K cStatics && He.eqO (PySem.W.nsIn K cStatics "sys.int_max_str_digits") (some none)
def DigK (K : Frg) : Prop := PySem.W.nsOkIn K cStatics = true ∧ PySem.W.nsIn K cStatics "sys.int_max_str_digits" = some none
theorem digK_ok {K : Frg} (h : digB K = true) : DigK K := ⟨(both h).1, He.eqO_ok (both h).2⟩
/-! the Hook -/
abbrev AlM : Type := Bool × List He.FnW
def frM (n : Nat) (g : Addr → Option Obj) : Frg := He.frG g (cStatics :: He.asD g n)
def obsM (fa : List He.Fa) (ex : Frg → Bool) (fn : List DefM) (K : Frg) : AlM := ((fa.all fun x => x.ok K) && (ex K && fn.all fun d => okM K d), fn.map fun d => seeM K d)
def valM (fn : List DefM) : AlM := (true, fn.map dueM)
def SaysM (fa : List He.Fa) (ex : Frg → Bool) (fn : List DefM) (K : Frg) : Prop := obsM fa ex fn K = valM fn
def hookM (n : Nat) (fa : List He.Fa) (ex : Frg → Bool) (fn : List DefM) : PySem.W.Hook where
  α := AlM
  obs := fun s => obsM fa ex fn (frM n s.heap.get?)
  val := fun _ => valM fn
  says := fun _ h => ∃ K : Frg, K.In h ∧ SaysM fa ex fn K
  of := fun _ _ e => ⟨_, He.frG_in, e⟩
  keeps := fun _ _ _ ⟨K, hK, c⟩ k => ⟨K, PySem.W.Frag.In.keeps hK k, c⟩
theorem obsM_eq {n : Nat} {fa : List He.Fa} {ex : Frg → Bool} {fn : List DefM} {g : Addr → Option Obj} {s : Shared} (h : ∀ a, g a = s.heap.get? a) : obsM fa ex fn (frM n g) = (hookM n fa ex fn).obs s := by
  have e : g = s.heap.get? := funext h
  subst e
  rfl
section
variable {fa : List He.Fa} {ex : Frg → Bool} {fn : List DefM} {K : Frg}
theorem SaysM.fact (c : SaysM fa ex fn K) (i : Nat) {x : He.Fa} (h : fa[i]? = some x) : x.ok K = true :=
  List.all_eq_true.mp (both (congrArg Prod.fst c : ((fa.all fun x => x.ok K) && (ex K && fn.all fun d => okM K d)) = true)).1 x (List.mem_of_getElem? h)
theorem SaysM.more (c : SaysM fa ex fn K) : ex K = true := (both (both (congrArg Prod.fst c : ((fa.all fun x => x.ok K) && (ex K && fn.all fun d => okM K d)) = true)).2).1
theorem SaysM.def_ (c : SaysM fa ex fn K) (i : Nat) {d : DefM} (h : fn[i]? = some d) : ∃ fd, FunD K d.nm d.ql d.pa d.bo d.sc (d.df.map (He.Dv.v K)) [] (d.ad K) fd := by
  have c2 := (both (both (congrArg Prod.fst c : ((fa.all fun x => x.ok K) && (ex K && fn.all fun d => okM K d)) = true)).2).2
  have e2 : (fn.map fun d => seeM K d)[i]? = (fn.map dueM)[i]? := congrArg (fun z : AlM => z.2[i]?) c
  simp only [List.getElem?_map, h, Option.map_some, Option.some.injEq] at e2
  exact funM e2 (List.all_eq_true.mp c2 d (List.mem_of_getElem? h))
end

/-! ### a dict that the module's top writes: keys integers and texts -/
section
open PySem PySem.Spec PyProof.Rows L2
def TabAt (K : PySem.W.Frag) (w : World) (a : Addr) (kvs : List (Key × V)) : Prop := (a == sysModules) = false ∧ ∃ vs : List (Key × Value), KV kvs vs ∧ ∀ (P : Program) (h : Heap), K.In h → h.DictOf (mixKind P w) a vs
def tKGet (K : PySem.W.Frag) (w : World) (td ty tx : TE) : TE := fun σ H Q => td σ H fun x H1 => ∃ a kvs, x = .ref a ∧ TabAt K w a kvs ∧ ty σ H1 fun y H2 => tx σ H2 fun z H3 => ∃ k, y = kV k ∧ Q ((valV kvs k).getD z) H3
def tKIx (K : PySem.W.Frag) (w : World) (td ty : TE) : TE := fun σ H Q => td σ H fun x H1 => ty σ H1 fun y H2 => ∃ a kvs k v, x = .ref a ∧ TabAt K w a kvs ∧ y = kV k ∧ valV kvs k = some v ∧ Q v H2
def tKIn (K : PySem.W.Frag) (w : World) (ty td : TE) : TE := fun σ H Q => ty σ H fun y H1 => td σ H1 fun x H2 => ∃ a kvs k, x = .ref a ∧ TabAt K w a kvs ∧ y = kV k ∧ Q (.bl (valV kvs k).isSome) H2
section
variable {X : Cx} {o e f : Expr} {apos cpos : Pos} {td ty tx : TE}
theorem dictOf_free {P : Program} {w : World} {h : Heap} {a : Addr} {vs : List (Key × Value)} (d : h.DictOf (mixKind P w) a vs) : ∃ ob, h.get? a = some ob ∧ ob.dict = none := by
  obtain ⟨ob, _, _, h1, h2, _⟩ := d
  exact ⟨ob, h1, h2.2.1⟩
theorem pe_kget2 (ho : PE X o td) (he : PE X e ty) (hf : PE X f tx) (m : M2 X o "get" apos e f cpos) : PE X (.Call (.Attribute o "get" apos) [e, f] [] cpos) (tKGet X.K X.w td ty tx) := by
  refine ⟨fun pins s σ H Q I h => ?_⟩
  refine wpAny_Call_method m.base m.few m.line PySem.F.plainAttrs_dict PySem.F.slot_dict_get PySem.F.type_dict_get (thn (ho.run pins s σ H _ I h) fun u s1 ⟨x, H1, I1, rx, a, kvs, ex, ⟨hd, vs, rel, dd⟩, q1⟩ => ?_)
  subst ex
  obtain rfl : u = Value.ref a := rx
  have d1 := dd X.prog s1.heap I1.kIn
  refine ⟨d1.typeIs, fun b q => ?_, ?_⟩
  · cases q
    exact dictOf_free d1
  rw [m.trees]
  refine Calls.callWith_builtin rfl (Calls.evalArgs_plain (Calls.spliced_cons (thn (he.run pins s1 σ H1 _ I1 q1) fun iv s2 ⟨y, H2, I2, ry, q2⟩ =>
    Calls.spliced_cons (thn (hf.run pins s2 σ H2 _ I2 q2) fun fv s3 ⟨z, H3, I3, rz, k, ey, q3⟩ => Calls.spliced_nil ?_))))
  subst ey
  have d3 := dd X.prog s3.heap I3.kIn
  refine call_meetsIn PySem.F.slot_dict_get d3.typeIs PySem.F.entry_dict_get (PySem.F.args_dict_get_3 _ _ _) (meets_dict_get_default (mixKind X.prog X.w) a (kV_is ry) hd fv) ⟨_, d3.mapOf, ⟨_, H3, I3.tok _, ?_, q3⟩⟩
  exact (rel.val k).getD rz
theorem pe_kix (ho : PE X o td) (hi : PE X e ty) (hs : NoSl e) : PE X (.Subscript o e cpos) (tKIx X.K X.w td ty) := by
  refine ⟨fun pins s σ H Q I h => ?_⟩
  refine subD_of PySem.F.slot_dict_getitem.lookup hs (thn (ho.run pins s σ H _ I h) fun u s1 ⟨x, H1, I1, rx, q1⟩ => thn (hi.run pins s1 σ H1 _ I1 q1) fun iv s2 ⟨y, H2, I2, ry, a, kvs, k, v, ex, ⟨hd, vs, rel, dd⟩, ey, l, q2⟩ => ?_)
  subst ex
  subst ey
  obtain rfl : u = Value.ref a := rx
  have d2 := dd X.prog s2.heap I2.kIn
  obtain ⟨w', hw, rw'⟩ := RelO.some_of (v := v) (o := valueAt vs k) (by rw [← l]; exact rel.val k)
  exact ⟨d2.typeIs, wpAny_getItem_of (kV_is ry) d2.mapOf hw ⟨v, H2, I2.tok _, rw', q2⟩⟩
theorem pc_kin (hi : PE X e ty) (ho : PE X o td) : PC X .In e o (tKIn X.K X.w ty td) := by
  refine ⟨fun pins s σ H Q I h => ?_⟩
  refine thn (hi.run pins s σ H _ I h) fun iv s1 ⟨y, H1, I1, ry, q1⟩ => thn (ho.run pins s1 σ H1 _ I1 q1) fun u s2 ⟨x, H2, I2, rx, a, kvs, k, ex, ⟨hd, vs, rel, dd⟩, ey, q2⟩ => ?_
  subst ex
  subst ey
  obtain rfl : u = Value.ref a := rx
  have d2 := dd X.prog s2.heap I2.kIn
  refine wpAny_in_of (kV_is ry) hd d2.mapOf ?_
  rw [← (rel.val k).isSome_eq]
  exact ⟨.bl _, H2, I2.tok _, rfl, q2⟩
end
/-! .. keys tuples of integers and texts -/
def KTk : List (List Key × V) → List (List Key × Addr × Value) → Prop := Paired fun (p : List Key × V) (q : List Key × Addr × Value) => p.1 = q.1 ∧ RelV p.2 q.2.2
theorem KTk.val {kvs : List (List Key × V)} {xs : List (List Key × Addr × Value)} (r : KTk kvs xs) (k : List Key) : RelO (valV kvs k) ((atKey xs k).map (·.2)) := by
  induction r with
  | nil => exact True.intro
  | @cons p q ps qs h t ih =>
    obtain ⟨h1, h2⟩ := h
    by_cases e : p.1 = k
    · have e' : q.1 = k := h1.symm.trans e
      have b : atKey (q :: qs) k = some q.2 := by simp [atKey, List.find?_cons, e']
      rw [valV_pos e, b]; exact h2
    · have e' : ¬ q.1 = k := fun z => e (h1.trans z)
      have b : atKey (q :: qs) k = atKey qs k := by simp [atKey, List.find?_cons, e']
      rw [valV_neg e, b]; exact ih
def TabTAt (K : PySem.W.Frag) (w : World) (a : Addr) (kvs : List (List Key × V)) : Prop := (a == sysModules) = false ∧ ∃ xs : List (List Key × Addr × Value), KTk kvs xs ∧ ∀ (P : Program) (h : Heap), K.In h → h.DictOfH (tupleKind (mixKind P w)) a xs
def tKGetT (K : PySem.W.Frag) (w : World) (td ty tx : TE) : TE := fun σ H Q => td σ H fun x H1 => ∃ a kvs, x = .ref a ∧ TabTAt K w a kvs ∧ ty σ H1 fun y H2 => tx σ H2 fun z H3 => ∃ b ks, y = .ref b ∧ H3 b = some (.tup (ks.map kV)) ∧ Q ((valV kvs ks).getD z) H3
section
variable {X : Cx} {o e f : Expr} {apos cpos : Pos} {td ty tx : TE}
theorem pe_kget2T (hu : X.A.units + 1 < cLine) (ho : PE X o td) (he : PE X e ty) (hf : PE X f tx) (m : M2 X o "get" apos e f cpos) : PE X (.Call (.Attribute o "get" apos) [e, f] [] cpos) (tKGetT X.K X.w td ty tx) := by
  refine ⟨fun pins s σ H Q I h => ?_⟩
  refine wpAny_Call_method m.base m.few m.line PySem.F.plainAttrs_dict PySem.F.slot_dict_get PySem.F.type_dict_get (thn (ho.run pins s σ H _ I h) fun u s1 ⟨x, H1, I1, rx, a, kvs, ex, ⟨hd, xs, rel, dd⟩, q1⟩ => ?_)
  subst ex
  obtain rfl : u = Value.ref a := rx
  have d1 := dd X.prog s1.heap I1.kIn
  refine ⟨d1.typeIs, fun b q => ?_, ?_⟩
  · cases q
    obtain ⟨ob, _, _, h1, h2, _⟩ := d1
    exact ⟨ob, h1, h2.2.1⟩
  rw [m.trees]
  refine Calls.callWith_builtin rfl (Calls.evalArgs_plain (Calls.spliced_cons (thn (he.run pins s1 σ H1 _ I1 q1) fun iv s2 ⟨y, H2, I2, ry, q2⟩ =>
    Calls.spliced_cons (thn (hf.run pins s2 σ H2 _ I2 q2) fun fv s3 ⟨z, H3, I3, rz, b, ks, ey, eb, q3⟩ => Calls.spliced_nil ?_))))
  subst ey
  obtain rfl : iv = Value.ref b := ry
  have d3 := dd X.prog s3.heap I3.kIn
  refine call_meetsIn PySem.F.slot_dict_get d3.typeIs PySem.F.entry_dict_get (PySem.F.args_dict_get_3 _ _ _) (meetsH_dict_get_default (tupleKind (mixKind X.prog X.w)) a b hd fv) ⟨tupleKind_room_in1 hu, ks, xs, key_of I3.hok eb, d3, ⟨_, H3, I3.tok _, ?_, q3⟩⟩
  exact (rel.val ks).getD rz
end
end
section
open PySem PySem.Spec PyProof.Rows L2
abbrev KeyX : Type := Sum Key (List Key)
def hashX (w : World) : KeyX → Int
  | .inl k => keyH w k
  | .inr ks => reduceHash (Builtin.Tuple.tupleHashOf (ks.map (keyH w)))
def keyV : Value → Option Key
  | .str x _ => some (.inr x)
  | .int i _ => some (.inl i)
  | _ => none
def keyL : List Value → Option (List Key)
  | [] => some []
  | v :: r => match keyV v, keyL r with
    | some k, some ks => some (k :: ks)
    | _, _ => none
def keyX (K : PySem.W.Frag) : Value → Option KeyX
  | .ref b => (match K.lookup b with
    | some ⟨.type c, _, .seq its _, _⟩ => (match decide (c = "tuple") with
      | true => (match keyL its.toList with
        | some ks => some (.inr ks)
        | none => none)
      | false => none)
    | _ => none)
  | v => (match keyV v with
    | some k => some (.inl k)
    | none => none)
def tabE (K : PySem.W.Frag) (e : DictEntry) : Option (KeyX × Int) := match keyX K e.key with
  | some k => some (k, e.hash)
  | none => none
def tabW (K : PySem.W.Frag) (a : Addr) : Option (List (Option (KeyX × Int))) := match K.lookup a with
  | some ⟨.type c, none, .dict es _, sl⟩ => (match decide (c = "dict") && (sl.isEmpty && !(a == sysModules)) with
    | true => some (es.toList.map (tabE K))
    | false => none)
  | _ => none
def keysX (w : World) (ks : List KeyX) : List (Option (KeyX × Int)) := ks.map fun k => some (k, hashX w k)
def relAllB : List V → List Value → Bool
  | [], [] => true
  | x :: xs, u :: us => He.relB x u && relAllB xs us
  | _, _ => false
def tabV (K : PySem.W.Frag) (a : Addr) (xs : List V) : Bool := match K.lookup a with
  | some ⟨_, _, .dict es _, _⟩ => relAllB xs (es.toList.map (·.val))
  | _ => false
theorem tabW_obj {K : PySem.W.Frag} {a : Addr} {l : List (Option (KeyX × Int))} (h : tabW K a = some l) : ∃ es n, K.lookup a = some ⟨.type "dict", none, .dict es n, #[]⟩ ∧ es.toList.map (tabE K) = l ∧ (a == sysModules) = false := by
  unfold tabW at h
  cases q : K.lookup a with
  | none =>
    rw [q] at h
    cases h
  | some o =>
    obtain ⟨oc, od, dt, osl⟩ := o
    rw [q] at h
    cases oc with
    | type c =>
      cases od with
      | none =>
        cases dt with
        | dict es n =>
          have h1 : (match decide (c = "dict") && (osl.isEmpty && !(a == sysModules)) with
            | true => some (es.toList.map (tabE K))
            | false => none) = some l := h
          cases z : decide (c = "dict") && (osl.isEmpty && !(a == sysModules)) with
          | false =>
            rw [z] at h1
            cases h1
          | true =>
            rw [z] at h1
            obtain ⟨z1, z2⟩ := both z
            obtain ⟨z3, z4⟩ := both z2
            have e1 : c = "dict" := of_decide_eq_true z1
            have e2 : osl = #[] := Array.isEmpty_iff.mp z3
            have e3 : (a == sysModules) = false := by
              cases y : a == sysModules with
              | false => rfl
              | true =>
                rw [y] at z4
                cases z4
            subst e1 e2
            exact ⟨es, n, rfl, Option.some.inj h1, e3⟩
        | _ => cases h
      | some b => cases dt <;> cases h
    | _ => cases od <;> cases dt <;> cases h
theorem keyV_is {v : Value} {k : Key} (h : keyV v = some k) : keyIs k v = true := by
  unfold keyV at h
  split at h
  · cases h
    exact keyIs_str _ _
  · cases h
    exact keyIs_int _ _
  · cases h
theorem keyX_inl {K : PySem.W.Frag} {v : Value} {k : Key} (h : keyX K v = some (.inl k)) : keyIs k v = true := by
  unfold keyX at h
  split at h
  · split at h
    · split at h
      · split at h <;> cases h
      · cases h
    · cases h
  · split at h
    · rename_i k0 q
      cases h
      exact keyV_is q
    · cases h
theorem keyX_inr {K : PySem.W.Frag} {v : Value} {ks : List Key} (h : keyX K v = some (.inr ks)) : ∃ (b : Addr) (o : Obj) (its : Array Value) (n : Nat), v = .ref b ∧ K.lookup b = some o ∧ o.cls = .type "tuple" ∧ o.data = .seq its n ∧ keyL its.toList = some ks := by
  unfold keyX at h
  split at h
  · rename_i b
    split at h
    · rename_i c d its n sl hL
      split at h
      · rename_i hc
        split at h
        · rename_i ks0 q
          cases h
          have hc : c = "tuple" := of_decide_eq_true hc
          subst hc
          exact ⟨_, _, its, n, rfl, hL, rfl, rfl, q⟩
        · cases h
      · cases h
    · cases h
  · split at h <;> cases h
theorem tabE_of {K : PySem.W.Frag} {e : DictEntry} {k : KeyX} {z : Int} (h : tabE K e = some (k, z)) : keyX K e.key = some k ∧ e.hash = z := by
  unfold tabE at h
  split at h
  · rename_i k0 q
    have h1 := Option.some.inj h
    obtain ⟨h2, h3⟩ := Prod.mk.inj h1
    exact ⟨by rw [q, h2], h3⟩
  · cases h
theorem kv_zip : ∀ (xs : List V) (us : List Value), relAllB xs us = true → ∀ {κ : Type} (ks : List κ), KV (ks.zip xs) (ks.zip us)
  | [], [], _, _, ks => by
    cases ks <;> exact .nil
  | x :: xs, u :: us, h, _, [] => .nil
  | x :: xs, u :: us, h, _, k :: ks => .cons ⟨rfl, He.relB_ok (both h).1⟩ (kv_zip xs us (both h).2 ks)
  | [], _ :: _, h, _, _ => by cases h
  | _ :: _, [], h, _, _ => by cases h
theorem tab_pairs {P : Program} {w : World} {K : PySem.W.Frag} : ∀ (l : List DictEntry) (ks : List Key), l.map (tabE K) = keysX w (ks.map .inl) →
    Pairs (mixKind P w) l (ks.zip (l.map (·.val))) ∧ (∀ e ∈ l, ∃ k, (mixKind P w).is k e.key = true ∧ e.hash = (mixKind P w).hash k) ∧ l.length = ks.length
  | [], [], _ => ⟨.nil, fun _ h => absurd h (by simp), rfl⟩
  | [], _ :: _, h => by cases h
  | _ :: _, [], h => by cases h
  | e :: l, k :: ks, h => by
    have h1 : tabE K e :: l.map (tabE K) = some (.inl k, hashX w (.inl k)) :: keysX w (ks.map .inl) := h
    injection h1 with h2 h3
    obtain ⟨a1, a2⟩ := tabE_of h2
    have a1 := keyX_inl a1
    obtain ⟨p1, p2, p3⟩ := tab_pairs (P := P) l ks h3
    refine ⟨.cons a1 rfl p1, fun x hx => ?_, congrArg (· + 1) p3⟩
    rcases List.mem_cons.mp hx with q | q
    · rw [q]
      exact ⟨k, a1, a2⟩
    · exact p2 x q
theorem fst_zip {α β : Type} : ∀ (ks : List α) (us : List β), us.length = ks.length → (ks.zip us).map (·.1) = ks
  | [], _, _ => by simp
  | k :: ks, [], h => by cases h
  | k :: ks, u :: us, h => by
    show k :: (ks.zip us).map (·.1) = k :: ks
    rw [fst_zip ks us (Nat.succ.inj h)]
theorem tab_ok {w : World} {K : PySem.W.Frag} {a : Addr} {ks : List Key} {xs : List V} (h : tabW K a = some (keysX w (ks.map .inl))) (hv : tabV K a xs = true) (nd : ks.Nodup) : TabAt K w a (ks.zip xs) := by
  obtain ⟨es, n, hK, he, hs⟩ := tabW_obj h
  unfold tabV at hv
  rw [hK] at hv
  have hv : relAllB xs (es.toList.map (·.val)) = true := hv
  refine ⟨hs, ks.zip (es.toList.map (·.val)), kv_zip _ _ hv ks, fun P hp hin => ?_⟩
  obtain ⟨p1, p2, p3⟩ := tab_pairs (P := P) es.toList ks he
  refine ⟨_, es, n, hin a _ hK, ⟨rfl, rfl, rfl⟩, rfl, fun e hm => p2 e (Array.mem_toList_iff.mpr hm), p1, ?_⟩
  rw [fst_zip _ _ (by rw [List.length_map]; exact p3)]
  exact nd
theorem keyL_are {P : Program} {w : World} : ∀ (l : List Value) (ks : List Key), keyL l = some ks → ItemsAre (mixKind P w) ks l
  | [], ks, h => by
    cases h
    exact .nil
  | v :: l, ks, h => by
    unfold keyL at h
    split at h
    · rename_i k ks0 q1 q2
      cases h
      exact .cons (keyV_is q1) (keyL_are l _ q2)
    · cases h
theorem tab_ents {P : Program} {w : World} {K : PySem.W.Frag} : ∀ (l : List DictEntry) (ks : List (List Key)) (ys : List V), l.map (tabE K) = keysX w (ks.map .inr) → relAllB ys (l.map (·.val)) = true →
    ∃ xs : List (List Key × Addr × Value), l = xs.map (entryOfKey (tupleKind (mixKind P w))) ∧ (∀ x ∈ xs, ∃ (o : Obj) (its : Array Value) (n : Nat), K.lookup x.2.1 = some o ∧ o.cls = .type "tuple" ∧ o.data = .seq its n ∧ keyL its.toList = some x.1) ∧ xs.map (·.1) = ks ∧ KTk (ks.zip ys) xs
  | [], [], [], _, _ => ⟨[], rfl, fun _ h => absurd h (by simp), rfl, .nil⟩
  | [], [], _ :: _, _, h => by cases h
  | [], _ :: _, _, h, _ => by cases h
  | _ :: _, [], _, h, _ => by cases h
  | _ :: _, _ :: _, [], _, h => by cases h
  | e :: l, k :: ks, y :: ys, h, hv => by
    have h1 : tabE K e :: l.map (tabE K) = some (.inr k, hashX w (.inr k)) :: keysX w (ks.map .inr) := h
    injection h1 with h2 h3
    obtain ⟨a1, a2⟩ := tabE_of h2
    obtain ⟨b, o, its, n, c1, c2, c3, c4, c5⟩ := keyX_inr a1
    have hv : (He.relB y e.val && relAllB ys (l.map (·.val))) = true := hv
    obtain ⟨xs, d1, d2, d3, d4⟩ := tab_ents (P := P) l ks ys h3 (both hv).2
    refine ⟨(k, b, e.val) :: xs, ?_, fun x hx => ?_, congrArg (k :: ·) d3, .cons ⟨rfl, He.relB_ok (both hv).1⟩ d4⟩
    · obtain ⟨eh, ek, ev⟩ := e
      have c1 : ek = .ref b := c1
      have a2 : eh = hashX w (.inr k) := a2
      rw [c1, a2, d1]
      rfl
    · rcases List.mem_cons.mp hx with q | q
      · rw [q]
        exact ⟨o, its, n, c2, c3, c4, c5⟩
      · exact d2 x q
theorem tab_okT {w : World} {K : PySem.W.Frag} {a : Addr} {ks : List (List Key)} {ys : List V} (h : tabW K a = some (keysX w (ks.map .inr))) (hv : tabV K a ys = true) (nd : ks.Nodup) : TabTAt K w a (ks.zip ys) := by
  obtain ⟨es, n, hK, he, hs⟩ := tabW_obj h
  unfold tabV at hv
  rw [hK] at hv
  have hv : relAllB ys (es.toList.map (·.val)) = true := hv
  obtain ⟨xs, d1, d2, d3, d4⟩ := tab_ents (P := default) es.toList ks ys he hv
  refine ⟨hs, xs, d4, fun P hp hin => ⟨_, es, n, hin a _ hK, ⟨rfl, rfl, rfl⟩, rfl, d1, fun x hx => ?_, by rw [d3]; exact nd⟩⟩
  obtain ⟨o, its, m, c1, c2, c3, c4⟩ := d2 x hx
  exact ⟨o, its, m, hin _ _ c1, c2, c3, keyL_are _ _ c4⟩
end

/-! ### the Hook with such dicts -/
abbrev TabX : Type := Str × List KeyX
abbrev AlX : Type := AlM × List (Option (List (Option (KeyX × Int))))
def obsX (fa : List He.Fa) (ex : Frg → Bool) (fn : List DefM) (ts : List TabX) (K : Frg) : AlX := (obsM fa ex fn K, ts.map fun t => tabW K (He.ga K t.1))
def valX (fn : List DefM) (ts : List TabX) (w : World) : AlX := (valM fn, ts.map fun t => some (keysX w t.2))
def SaysX (fa : List He.Fa) (ex : Frg → Bool) (fn : List DefM) (ts : List TabX) (w : World) (K : Frg) : Prop := obsX fa ex fn ts K = valX fn ts w
def hookX (n : Nat) (fa : List He.Fa) (ex : Frg → Bool) (fn : List DefM) (ts : List TabX) : PySem.W.Hook where
  α := AlX
  obs := fun s => obsX fa ex fn ts (frM n s.heap.get?)
  val := fun w => valX fn ts w
  says := fun w h => ∃ K : Frg, K.In h ∧ SaysX fa ex fn ts w K
  of := fun _ _ e => ⟨_, He.frG_in, e⟩
  keeps := fun _ _ _ ⟨K, hK, c⟩ k => ⟨K, PySem.W.Frag.In.keeps hK k, c⟩
theorem obsX_eq {n : Nat} {fa : List He.Fa} {ex : Frg → Bool} {fn : List DefM} {ts : List TabX} {g : Addr → Option Obj} {s : Shared} (h : ∀ a, g a = s.heap.get? a) : obsX fa ex fn ts (frM n g) = (hookX n fa ex fn ts).obs s := by
  have e : g = s.heap.get? := funext h
  subst e
  rfl
section
variable {fa : List He.Fa} {ex : Frg → Bool} {fn : List DefM} {ts : List TabX} {w : World} {K : Frg}
theorem SaysX.m (c : SaysX fa ex fn ts w K) : SaysM fa ex fn K := congrArg (fun z : AlX => z.1) c
theorem SaysX.tab (c : SaysX fa ex fn ts w K) (i : Nat) {t : TabX} (h : ts[i]? = some t) : tabW K (He.ga K t.1) = some (keysX w t.2) := by
  have e : ts.map (fun t => tabW K (He.ga K t.1)) = ts.map fun t => some (keysX w t.2) := congrArg (fun z : AlX => z.2) c
  have e2 : (ts.map fun t => tabW K (He.ga K t.1))[i]? = (ts.map fun t => some (keysX w t.2))[i]? := by rw [e]
  rw [List.getElem?_map, List.getElem?_map, h] at e2
  exact Option.some.inj e2
end
/-! ### a display of a dict asks the world one thing: both answers are run -/
def setF (w : World) (b : Bool) : World := { w with params := { w.params with followText := fun x => if x = "special-get-raises" then b else w.params.followText x } }
theorem setF_eq (w : World) : setF w (w.params.followText "special-get-raises") = w := by
  have e : (fun x => if x = "special-get-raises" then w.params.followText "special-get-raises" else w.params.followText x) = w.params.followText := by
    funext x
    by_cases h : x = "special-get-raises"
    · rw [if_pos h, h]
    · rw [if_neg h]
  show ({ w with params := { w.params with followText := fun x => if x = "special-get-raises" then w.params.followText "special-get-raises" else w.params.followText x } } : World) = w
  rw [e]

/-! ### own exceptions with one field; defs that raise -/
def oexB (K : Frg) (C : Addr) : Bool := match K.lookup C with
  | some ⟨.type t, _, .cls cd, sl⟩ => decide (t = "type") && (match cd.mro, sl.toList with
    | .ref c :: bm, [_, _, _, _, some (.builtin n), _] => decide (c = C) && (decide (n = "ValueError.__new__") && (!cd.hasDel && (cd.hasDict && PySem.HandSPX.refsVE bm)))
    | _, _ => false)
  | _ => false
theorem oexM {K : Frg} {C : Addr} (h : oexB K C = true) : ∃ nm q N bs bm sn sub ab col dd k0 k1 k2 k3 k5, K.lookup C = some (excClassObj nm q C N bs bm true sn sub ab col dd k0 k1 k2 k3 k5 "ValueError.__new__") ∧ PySem.HandSPX.refsVE bm = true := by
  unfold oexB at h
  split at h
  · rename_i t dd cd sl ho
    obtain ⟨h1, h⟩ := both h
    have h1 : t = "type" := of_decide_eq_true h1
    split at h
    · rename_i c bm k0 k1 k2 k3 n k5 hm hs
      obtain ⟨h2, h⟩ := both h
      obtain ⟨h3, h⟩ := both h
      obtain ⟨h4, h⟩ := both h
      obtain ⟨h5, h6⟩ := both h
      have h2 : c = C := of_decide_eq_true h2
      have h3 : n = "ValueError.__new__" := of_decide_eq_true h3
      obtain ⟨nm, bs, mro, ns, qn, hd, sn, sub, ab, col, del⟩ := cd
      dsimp only at hm h4 h5
      have h4 : del = false := by cases del <;> first | rfl | cases h4
      subst hm h4 h5 h1 h2 h3
      have hsl : sl = #[k0, k1, k2, k3, some (.builtin "ValueError.__new__"), k5] := by
        obtain ⟨l⟩ := sl
        simp only at hs
        rw [hs]
      subst hsl
      exact ⟨nm, qn, ns, bs, bm, sn, sub, ab, col, dd, k0, k1, k2, k3, k5, ho, h6⟩
    · cases h
  · cases h
/-- the class at C may be raised with one field f; its __init__ stands at fI -/
structure ExcK (K : Frg) (C fI : Addr) (f : Str) : Prop where
  oex : OexC K C
  ini : PySem.W.findIn K (.ref C) "__init__" = some (some (.ref fI))
  tI : PySem.W.typeIn K (.ref fI) = some (.type "function")
  no : PySem.W.findIn K (.ref C) f = some none
  xf : XfC K C
  te : PySem.W.exmOne K (.ref C) (.ref C) = some true
def exkB (K : Frg) (C fI : Addr) (f : Str) : Bool := oexB K C && (He.eqO (PySem.W.findIn K (.ref C) "__setattr__") (some (some (.builtin "object.__setattr__"))) && (decide (PySem.W.subIn K (.ref C) (.type "BaseException") = some true) &&
  (decide (PySem.W.typeIn K (.ref C) = some (.type "type")) && (PySem.W.keepIn K (.ref C) && (He.eqO (PySem.W.findIn K (.ref C) "__init__") (some (some (.ref fI))) && (decide (PySem.W.typeIn K (.ref fI) = some (.type "function")) &&
  (He.eqO (PySem.W.findIn K (.ref C) f) (some none) && (xfB K C && decide (PySem.W.exmOne K (.ref C) (.ref C) = some true)))))))))
theorem exkM {K : Frg} {C fI : Addr} {f : Str} (h : exkB K C fI f = true) : ExcK K C fI f := by
  obtain ⟨h1, h⟩ := both h
  obtain ⟨h2, h⟩ := both h
  obtain ⟨h3, h⟩ := both h
  obtain ⟨h4, h⟩ := both h
  obtain ⟨h5, h⟩ := both h
  obtain ⟨h6, h⟩ := both h
  obtain ⟨h7, h⟩ := both h
  obtain ⟨h8, h⟩ := both h
  obtain ⟨h9, h10⟩ := both h
  exact ⟨⟨oexM h1, He.eqO_ok h2, of_decide_eq_true h3, of_decide_eq_true h4, h5⟩, He.eqO_ok h6, of_decide_eq_true h7, He.eqO_ok h8, xfB_ok h9, of_decide_eq_true h10⟩
/-- __init__(self, f): self.f = f -/
def spExc (K : Frg) (f : Str) : Sp := fun vs H Q _ => ∃ (a C : Addr) (v : V), vs = [.ref a, v] ∧ OexC K C ∧ PySem.W.findIn K (.ref C) f = some none ∧ H a = some (exo a C none) ∧
  ∀ dx, H dx = none → dx ≠ a → Q .non (upd (upd H dx (exd dx [(f, v)])) a (exo a C (some dx)))
/-- an exception class of this name, ready to be raised -/
structure Raz (P : Program) (w : World) (K : Frg) (mg : Str → Option Value) (base : Heap) (x : Str) (C : Addr) (f : Str) : Prop where
  ex : ∃ (fI : Addr) (fd : FuncData), ExcK K C fI f ∧ mg x = some (.ref C) ∧ FnOk P w K mg base CX0 1 fI fd ["self", f] (spExc K f) ∧ Binds K fd ["self", f] []
/-- a def that may raise -/
structure CalX (P : Program) (w : World) (K : Frg) (mg : Str → Option Value) (base : Heap) (k : Nat) (x : Str) (sp : Sp) : Prop where
  ex : ∃ (f : Addr) (fd : FuncData) (ps : List Str), FnOk P w K mg base (L2.CX P w) k f fd ps sp ∧ mg x = some (.ref f) ∧ PySem.W.keepIn K (.ref f) = true ∧ Binds K fd ps []
/-- .. a method -/
structure MetX (P : Program) (w : World) (K : Frg) (mg : Str → Option Value) (base : Heap) (k : Nat) (C : Addr) (m : Str) (sp : Sp) : Prop where
  ex : ∃ (f : Addr) (fd : FuncData) (ps : List Str), Cls K C ∧ Meth K C m f ∧ FnOk P w K mg base (L2.CX P w) k f fd ps sp ∧ Binds K fd ps []
section
variable {P : Program} {w : World} {K : Frg} {mg : Str → Option Value} {base : Heap} {x qual : Str} {params : Arguments} {body : List Stmt} {scope : Scope} {f : Addr} {fd : FuncData} {N ps : List Str} {k : Nat} {sp : Sp} {C : Addr}
theorem calXD (F : FunD K x qual params body scope [] [] f fd) (m : mg x = some (.ref f)) (S : FnScope N ps scope)
    (hb : ∀ (kV doc pm : Value) (an : Option Addr) (cdv ct : Value) (us : List Value), us.length = ps.length → bindArgs (PySem.W.fnOf x qual params body scope .none kV doc pm an cdv ct) ⟨us, []⟩ = pure (ps.zip us))
    (len : ∀ vs H Q E, sp vs H Q E → vs.length = ps.length)
    (hbody : ∀ (cdv : Value) (A : Around) (outer : List Env) (s : Shared) (H : Hp) (vs : List V) (Q : VK) (E : XK), Room k (A.deeper (envOfC qual scope s.heap.objs.size f cdv)) → sp vs H Q E →
      ∃ t, PSs (cxOf (L2.CX P w) P w K mg base N qual scope f cdv A outer s H E) body t ∧ t { nx := fun _ H' => Q .non H', rt := Q } (start N vs) H) : CalX P w K mg base (k + 1) x sp :=
  ⟨f, fd, ps, F.ok S len hbody, m, F.kp, F.bindsN hb⟩
theorem metXD (F : FunD K x qual params body scope [] [] f fd) (cl : Cls K C) (me : Meth K C x f) (S : FnScope N ps scope)
    (hb : ∀ (kV doc pm : Value) (an : Option Addr) (cdv ct : Value) (us : List Value), us.length = ps.length → bindArgs (PySem.W.fnOf x qual params body scope .none kV doc pm an cdv ct) ⟨us, []⟩ = pure (ps.zip us))
    (len : ∀ vs H Q E, sp vs H Q E → vs.length = ps.length)
    (hbody : ∀ (cdv : Value) (A : Around) (outer : List Env) (s : Shared) (H : Hp) (vs : List V) (Q : VK) (E : XK), Room k (A.deeper (envOfC qual scope s.heap.objs.size f cdv)) → sp vs H Q E →
      ∃ t, PSs (cxOf (L2.CX P w) P w K mg base N qual scope f cdv A outer s H E) body t ∧ t { nx := fun _ H' => Q .non H', rt := Q } (start N vs) H) : MetX P w K mg base (k + 1) C x sp :=
  ⟨f, fd, ps, cl, me, F.ok S len hbody, F.bindsN hb⟩
end
def tMethS (C : Addr) (m : Str) (sp : Sp) (E : St → XK) (ta : TE) (t : TA) : TE := fun σ H Q => ta σ H fun x H1 => ∃ a dx fs, x = .ref a ∧ H1 a = some (.ins C dx fs) ∧ fs.lookup m = none ∧ t σ H1 fun vs H2 => sp (x :: vs) H2 Q (E σ)
section
variable {X : Cx} {k j : Nat} {C : Addr} {x m : Str} {sp : Sp} {W : WX} {p pos apos pos2 : Pos} {e o : Expr} {es : List Expr} {ta : TE} {t : TA}
theorem pe_cX (c : CalX X.prog X.w X.K X.mg X.base k x sp) (hr : Room j X.A) (hk : k ≤ j) (hg : Gl X x) (tk : Takes X W) (ha : PA X (e :: es) t)
    (hdb : (x == ("__debug__" : Str)) = false := by decide) (he : starEach (e :: es) X.env = (false, eval e X.env) :: starEach es X.env := by rfl) (hpl : (backTo pos (starEach es X.env)).any (·.1) = false := by rfl) :
    PE X (.Call (.Name x p) (e :: es) [] pos) (tCallS sp (WE W) t) := by
  obtain ⟨f, fd, ps, F, hm, kp, b⟩ := c.ex
  exact pe_callS F (hr.mono hk) hg hm kp b (fun σ => passAt tk σ) ha hdb he hpl
theorem pe_mtX {pl : Sem Bool} (c : MetX X.prog X.w X.K X.mg X.base k C m sp) (hr : Room j X.A) (hk : k ≤ j) (tk : Takes X W) (he : PE X o ta) (ha : PA X (e :: es) t)
    (hst : starEach (e :: es) X.env = (false, eval e X.env) :: starEach es X.env := by rfl) (hpl : (backTo pos (starEach es X.env)).any (·.1) = false := by rfl)
    (ht : eval (.Call (.Attribute o m apos) (e :: es) [] pos) X.env = (do
      let ov ← eval o X.env
      standAt apos.atName
      let (f, first) ← holding [ov] (getMethod ov m pl)
      callWith pos f first (backTo pos (starEach (e :: es) X.env)) (backToKw pos (keywordEach [] X.env))) := by rfl) :
    PE X (.Call (.Attribute o m apos) (e :: es) [] pos) (tMethS C m sp (WE W) ta t) := by
  obtain ⟨f, fd, ps, hc, hm, F, b⟩ := c.ex
  refine ⟨fun pins s σ H Q I h => ?_⟩
  refine PySem.W.methodCall_KW (pl := pl) (thn (he.run pins s σ H _ I h) fun u s1 ⟨x, H1, I1, rx, a, dx, fs, ex, ea, l, q⟩ => ?_) ht
  subst ex
  obtain rfl : u = Value.ref a := rx
  refine getmeth_ok I1 ea hc hm l ?_
  refine PySem.W.callWith_K (first := [.ref a]) (h₀ := X.base) I.ok.mod.kin hm.kp (thn (ha.run pos pins s1 σ H1 _ I1 q) fun us s2 ⟨vs, H2, I2, r, q2⟩ => ⟨I2.kIn, ?_⟩) hst hpl
  exact run_fnS (us := .ref a :: us) (vs := .ref a :: vs) F (hr.mono hk) b (passAt tk σ) I2 (.cons rfl r) q2
theorem pe_mtX0 {pl : Sem Bool} (c : MetX X.prog X.w X.K X.mg X.base k C m sp) (hr : Room j X.A) (hk : k ≤ j) (tk : Takes X W) (he : PE X o ta)
    (ht : eval (.Call (.Attribute o m apos) [] [] pos) X.env = (do
      let ov ← eval o X.env
      standAt apos.atName
      let (f, first) ← holding [ov] (getMethod ov m pl)
      callWith pos f first (backTo pos (starEach [] X.env)) (backToKw pos (keywordEach [] X.env))) := by rfl) :
    PE X (.Call (.Attribute o m apos) [] [] pos) (tMethS C m sp (WE W) ta tNil) := by
  obtain ⟨f, fd, ps, hc, hm, F, b⟩ := c.ex
  refine ⟨fun pins s σ H Q I h => ?_⟩
  refine PySem.W.methodCall_KW (pl := pl) (thn (he.run pins s σ H _ I h) fun u s1 ⟨x, H1, I1, rx, a, dx, fs, ex, ea, l, q⟩ => ?_) ht
  subst ex
  obtain rfl : u = Value.ref a := rx
  refine getmeth_ok I1 ea hc hm l ?_
  exact PySem.W.callWith_K0 (first := [.ref a]) I1.kIn hm.kp (run_fnS (us := [.ref a]) (vs := [.ref a]) F (hr.mono hk) b (passAt tk σ) I1 (.cons rfl .nil) q)
def tWeak (te : TE) : TE := fun σ H Q => ∃ Q' : VK, te σ H Q' ∧ ∀ v H1, Q' v H1 → Q v H1
theorem pe_weak (he : PE X e ta) : PE X e (tWeak ta) := ⟨fun pins s σ H Q I ⟨Q', h, m⟩ => wpAny_mono (he.run pins s σ H Q' I h) (fun _ _ ⟨v, H1, I1, r, q⟩ => ⟨v, H1, I1, r, m v H1 q⟩) fun _ _ z => z⟩
/-- raise C(e), C with one field -/
def tRaz (C : Addr) (f : Str) (W : WX) (te : TE) : TS := fun _ σ H => te σ H fun v H1 => ∀ d, H1 d = none → W (.ref C) (some d) σ (upd H1 d (.xd [(f, v)]))
theorem ps_raz {f : Str} (r : Raz X.prog X.w X.K X.mg X.base x C f) (hc : X.calm = true) (hr : Room j X.A) (hk : 2 ≤ j) (hg : Gl X x) (tk : Takes X W) (he : PE X e ta)
    (hdb : (x == ("__debug__" : Str)) = false := by decide) (hs : starEach (e :: []) X.env = (false, eval e X.env) :: starEach [] X.env := by rfl) (hpl : (backTo pos (starEach [] X.env)).any (·.1) = false := by rfl) :
    PS X (.Raise (some (.Call (.Name x p) [e] [] pos)) none pos2) (tRaz C f W ta) := by
  obtain ⟨fI, fd, T, hm, F, b⟩ := r.ex
  have he2 : PE X e (tWeak ta) := pe_weak he
  have z := ps_raise (pos := pos2) hc tk (pmk_oex (p := p) (pos := pos) T.oex T.ini T.tI F (hr.mono hk) b .nil pass0 hg hm (pa_cons he2 pa_nil hs) hdb hs hpl)
  refine ⟨fun pins s σ H D I h => z.run pins s σ H D I ?_⟩
  refine ⟨_, h, fun v H1 q => ⟨by show 1 ≤ 1000; decide, fun a ha => ⟨a, C, v, rfl, T.oex, T.no, upd_same, fun dx hd hne => ⟨rfl, dx, [(f, v)], upd_same, ?_, ?_, ?_⟩⟩⟩⟩
  · rw [upd_ne hne, upd_same]
  · rw [upd_ne hne] at hd
    exact hd
  · rw [upd_ne hne] at hd
    have e : upd (del (upd (upd (upd H1 a (exo a C none)) dx (exd dx [(f, v)])) a (exo a C (some dx))) a) dx (.xd [(f, v)]) = upd H1 dx (.xd [(f, v)]) := by
      funext b
      by_cases hb : b = dx
      · rw [hb, upd_same, upd_same]
      · rw [upd_ne hb, upd_ne hb]
        by_cases hba : b = a
        · rw [hba, del_same, ha]
        · rw [del_ne hba, upd_ne hba, upd_ne hb, upd_ne hba]
    rw [e]
    exact q dx hd
end
section
variable {σ : St} {H : Hp} {D : Ends} {Q : VK} {C a : Addr} {K : Frg} {f m : Str} {W : WX} {te to ta : TE} {t : TA} {sp : Sp} {E : St → XK} {n : St → Hp → Prop} {r : VK} {b c : St → Hp → Prop} {cls : Value} {d : Option Addr}
theorem r_raz (h : te σ H fun v H1 => ∀ d, H1 d = none → W (.ref C) (some d) σ (upd H1 d (.xd [(f, v)]))) : tRaz C f W te D σ H := h
theorem r_ost (h : te σ H fun y H1 => to σ H1 fun x H2 => ∃ a C : Addr, x = .ref a ∧ OexC K C ∧ PySem.W.findIn K (.ref C) f = some none ∧
  ((H2 a = some (exo a C none) ∧ ∀ dx, H2 dx = none → dx ≠ a → n σ (upd (upd H2 dx (exd dx [(f, y)])) a (exo a C (some dx)))) ∨
    ∃ (dx : Addr) (fs : List (Str × V)), H2 a = some (exo a C (some dx)) ∧ H2 dx = some (exd dx fs) ∧ fs.length ≤ 900 ∧ n σ (upd H2 dx (exd dx ((f, y) :: fs))))) : tOst K f to te ⟨n, r, b, c⟩ σ H := h
theorem r_callS (h : t σ H fun vs H1 => sp vs H1 Q (E σ)) : tCallS sp E t σ H Q := h
theorem r_methS (h : ta σ H fun x H1 => ∃ a dx fs, x = .ref a ∧ H1 a = some (.ins C dx fs) ∧ fs.lookup m = none ∧ t σ H1 fun vs H2 => sp (x :: vs) H2 Q (E σ)) : tMethS C m sp E ta t σ H Q := h
theorem r_xf (h : te σ H fun x H1 => x = .ref a ∧ cls = .ref C ∧ ∃ (dd : Addr) (fs : List (Str × V)) (v : V), d = some dd ∧ H1 dd = some (.xd fs) ∧ fs.lookup f = some v ∧ Q v H1) : tXf a cls d C f te σ H Q := h
end
section
variable {P : Program} {w : World} {K : Frg} {mg : Str → Option Value} {base : Heap} {params : Arguments} {body : List Stmt} {scope : Scope} {f : Addr} {fd : FuncData} {x : Str} {C : Addr}
/-- an exception class from what the top wrote -/
theorem razM {n qual : Str} {dv : V} (F : FunD K "__init__" qual params body scope [dv] [] f fd) (S : FnScope ["self", n] ["self", n] scope) (T : ExcK K C f n) (m : mg x = some (.ref C))
    (h : ∀ (Tt : Addr) (kV doc pm : Value) (an : Option Addr) (cdv ct : Value) (us its : List Value), us.length = 2 → its.length = 1 →
      ∃ k, bindArgs (PySem.W.fnOf "__init__" qual params body scope (.ref Tt) kV doc pm an cdv ct) ⟨us, []⟩ = seqItems? (.ref Tt) >>= k ∧ k (some its.toArray) = pure ((["self", n] : List Str).zip (us ++ its.drop 1)))
    (hbody : ∀ (cdv : Value) (A : Around) (outer : List Env) (s : Shared) (H : Hp) (E : XK), PSs (cxOf CX0 P w K mg base ["self", n] qual scope f cdv A outer s H E).nox body (tOst K n (tVar 0) (tVar 1))) : Raz P w K mg base x C n := by
  obtain ⟨ds, r, b⟩ := F.binds1 2 1 (List.cons_ne_nil _ _) rfl h
  have e : ds = [] := by
    cases r
    rfl
  subst e
  refine ⟨f, fd, T, m, F.ok S (fun vs H Q E hs => ?_) fun cdv A outer s H vs Q E hr hs => ?_, b⟩
  · obtain ⟨_, _, _, rfl, _⟩ := hs
    rfl
  · obtain ⟨a, C', v, rfl, T', no, ea, q⟩ := hs
    refine ⟨_, (hbody cdv A outer s H E).nox, ?_⟩
    exact ⟨_, rfl, _, rfl, a, C', rfl, T', no, .inl ⟨ea, q⟩⟩
end
section
variable {X : Cx} {x n : Str} {c : Value} {i : Nat} {body suite : List Stmt} {b₀ : Stmt} {np pos pos' : Pos} {tb : WX → TS} {ts : Addr → Value → Option Addr → TS} {Wout : WX}
/-- ps_try_as, the readings told behind the bodies (so that the elaborator sees the statements first) -/
theorem ps_try_asE (hs : X.stack = X.env :: X.outer) (hf : X.env.frame = some X.env.locals) (hN : X.N.Nodup) (hi : X.N[i]? = some n) (hln : X.env.kindOf n = some .local) (hc : Names X x c) (tk : Takes X Wout)
    (hb : ∀ (W : WX) (pn : List (Addr × Obj)) (xe : Value → Shared → Prop), Takes (X.tr pn xe) W → PassesOwn (model X.prog X.w) X.A X.env xe → ∃ t, PSs (X.tr pn xe) body t ∧ t = tb W)
    (hsu : ∀ (a : Addr) (oe : Obj) (cls : Value) (d : Option Addr) (pn : List (Addr × Obj)), Zc cls d oe → (∃ vs, oe.data = .fields vs) → ∃ t, PSs (X.suite a ((a, oe) :: pn)) (b₀ :: suite) t ∧ t = ts a cls d) :
    PS X (.Try body [.ExceptHandler (some (.Name x np)) (some n) (b₀ :: suite) pos'] [] [] pos) (fun D σ H => tb (wAs X.K c i ts Wout D) D σ H) :=
  ps_try_as hs hf hN hi hln hc tk (fun W pn xe h1 h2 => by
    obtain ⟨t, p, e⟩ := hb W pn xe h1 h2
    rw [← e]
    exact p) fun a oe cls d pn h1 h2 => by
    obtain ⟨t, p, e⟩ := hsu a oe cls d pn h1 h2
    rw [← e]
    exact p
end
theorem pi_listK {X : Cx} {tg l : Expr} {tl : TE} {K : Frg} (e : X.K = K) (hl : PE X l tl) : PI X tg l (iList K tl) := by
  rw [← e]
  exact pi_list hl

/-! ### isinstance of a caught error that has a field -/
structure IsxC (K : Frg) (D : Addr) : Prop where
  xf : XfC K D
  ha : PySem.W.findIn K (.ref D) "__class__" = some (some (.builtin "object.__class__"))
  hn : PySem.W.specialIn K (.builtin "object.__class__") "__get__" = some (some (.builtin "getset_descriptor.__get__"))
  ht : PySem.W.takesIn K (.builtin "object.__class__") = some true
  hm : PySem.W.mroIn K D (.type "object") = some true
def isxB (K : Frg) (D : Addr) : Bool := xfB K D && (decide (PySem.W.findIn K (.ref D) "__class__" = some (some (.builtin "object.__class__"))) && (decide (PySem.W.specialIn K (.builtin "object.__class__") "__get__" = some (some (.builtin "getset_descriptor.__get__"))) && (decide (PySem.W.takesIn K (.builtin "object.__class__") = some true) && decide (PySem.W.mroIn K D (.type "object") = some true))))
theorem isxM {K : Frg} {D : Addr} (h : isxB K D = true) : IsxC K D := by
  obtain ⟨h1, h⟩ := both h
  obtain ⟨h2, h⟩ := both h
  obtain ⟨h3, h⟩ := both h
  obtain ⟨h4, h5⟩ := both h
  exact ⟨xfB_ok h1, of_decide_eq_true h2, of_decide_eq_true h3, of_decide_eq_true h4, of_decide_eq_true h5⟩
def rIsX (K : Frg) (a : Addr) (cls : Value) (d : Option Addr) : List V → Hp → VK → Prop := fun xs H Q => ∃ (C D dd : Addr) (fs : List (Str × V)) (b : Bool), xs = [.ref a, .ref C] ∧ cls = .ref D ∧ d = some dd ∧ H dd = some (.xd fs) ∧ IsxC K D ∧ PySem.W.kitOne K (.ref D) (.ref C) = some b ∧ Q (.bl b) H
theorem call_isX {X : Cx} {a : Addr} {cls : Value} {d : Option Addr} {oe : Obj} {pn : List (Addr × Obj)} (hz : Zc cls d oe) (hf : ∃ vs, oe.data = .fields vs) : CallR (X.suite a ((a, oe) :: pn)) (.builtin "isinstance") (rIsX X.K a cls d) := by
  intro pins s σ H xs us Q I r h
  obtain ⟨C, D, dd, fs, b, rfl, rfl, rfl, ea, T, e, q⟩ := h
  cases r with
  | cons rx rr =>
    cases rr with
    | cons rt rr =>
      cases rr
      cases rx
      cases rt
      obtain ⟨hget, _⟩ := I.pin (a, oe) (List.mem_append_left _ List.mem_cons_self)
      obtain ⟨vs, hv⟩ := hf
      have hx : ObjOk X.prog X.w H s.heap dd (.xd fs) := I.hok dd _ ea
      obtain ⟨mA, hns, _⟩ := hx
      obtain ⟨od, ho, _⟩ := lookIn_ns hns
      have J : PySem.W.InstAt s.heap a oe D (some od) := ⟨hget, hz.1, by unfold PySem.W.notCls; rw [hv] <;> rfl, by rw [hz.2]; exact ho⟩
      have ic : (PySem.W.clsIn X.K D).isSome = true := by
        have q := T.xf.hdC
        unfold PySem.W.hasDictIn at q
        cases z : PySem.W.clsIn X.K D with
        | some c => rfl
        | none => rw [z] at q; cases q
      exact PySem.W.kia_one (PySem.W.kitx_exc ic T.xf.ga T.xf.gg T.xf.exC T.ha T.hn T.ht T.hm) I.kIn J e (fun z => nomatch z) fun tk => ⟨.bl b, H, I.kept (t' := tk) fun _ _ z => z, rfl, q⟩

/-! ### the Hook over addresses that are written down -/
def hookY (l : List Addr) (fa : List He.Fa) (ex : Frg → Bool) (fn : List DefM) (ts : List TabX) : PySem.W.Hook where
  α := AlX
  obs := fun s => obsX fa ex fn ts (He.frG s.heap.get? l)
  val := fun w => valX fn ts w
  says := fun w h => ∃ K : Frg, K.In h ∧ SaysX fa ex fn ts w K
  of := fun _ _ e => ⟨_, He.frG_in, e⟩
  keeps := fun _ _ _ ⟨K, hK, c⟩ k => ⟨K, PySem.W.Frag.In.keeps hK k, c⟩
theorem obsY_eq {l : List Addr} {fa : List He.Fa} {ex : Frg → Bool} {fn : List DefM} {ts : List TabX} {g : Addr → Option Obj} {s : Shared} (h : ∀ a, g a = s.heap.get? a) : obsX fa ex fn ts (He.frG g l) = (hookY l fa ex fn ts).obs s := by
  have e : g = s.heap.get? := funext h
  subst e
  rfl
/-- the same for a program without such dicts -/
def hookZ (l : List Addr) (fa : List He.Fa) (ex : Frg → Bool) (fn : List DefM) : PySem.W.Hook where
  α := AlM
  obs := fun s => obsM fa ex fn (He.frG s.heap.get? l)
  val := fun _ => valM fn
  says := fun _ h => ∃ K : Frg, K.In h ∧ SaysM fa ex fn K
  of := fun _ _ e => ⟨_, He.frG_in, e⟩
  keeps := fun _ _ _ ⟨K, hK, c⟩ k => ⟨K, PySem.W.Frag.In.keeps hK k, c⟩
theorem obsZ_eq {l : List Addr} {fa : List He.Fa} {ex : Frg → Bool} {fn : List DefM} {g : Addr → Option Obj} {s : Shared} (h : ∀ a, g a = s.heap.get? a) : obsM fa ex fn (He.frG g l) = (hookZ l fa ex fn).obs s := by
  have e : g = s.heap.get? := funext h
  subst e
  rfl

/-! ### own classes: made, their fields and methods -/
theorem lk_hit (k : Str) (v : V) (r : List (Str × V)) : List.lookup k ((k, v) :: r) = some v := by simp [List.lookup]
theorem lk_miss {k a : Str} {v : V} {r : List (Str × V)} (h : (a == k) = false) : List.lookup a ((k, v) :: r) = List.lookup a r := by
  show (match a == k with
    | true => some v
    | false => List.lookup a r) = _
  rw [h]
theorem pf_nil (k : Str) (v : V) : putF k v [] = [(k, v)] := rfl
theorem pf_hit (k : Str) (v x : V) (r : List (Str × V)) : putF k v ((k, x) :: r) = (k, v) :: r := if_pos rfl
theorem pf_miss {k g : Str} {v x : V} {r : List (Str × V)} (h : ¬ g = k) : putF k v ((g, x) :: r) = (g, x) :: putF k v r := if_neg h
section
variable {X : Cx} {k j : Nat} {C : Addr} {x m : Str} {sp : Sp} {dvs : List V} {p pos apos : Pos} {e o : Expr} {es : List Expr} {ta : TE} {t : TA}
theorem pe_mk0 (c : Mak X.prog X.w X.K X.mg X.base k x C sp dvs) (hr : Room j X.A) (hk : k + 1 ≤ j) (hg : Gl X x) (hdb : (x == ("__debug__" : Str)) = false := by decide) : PE X (.Call (.Name x p) [] [] pos) (tMake C sp dvs C8.E0 tNil) := by
  obtain ⟨_, _, _, _, M, F, hm, b, d⟩ := c.ex
  exact pe_make0 M F (hr.mono hk) hg hm b d pass0 hdb
/-- a property of the class at C -/
structure Prp (P : Program) (w : World) (K : Frg) (mg : Str → Option Value) (base : Heap) (k : Nat) (C : Addr) (f : Str) (sp : Sp) : Prop where
  ex : ∃ (q g : Addr) (fd : FuncData) (ps : List Str), Cls K C ∧ PropOf K C f q g ∧ FnOk P w K mg base CX0 k g fd ps sp ∧ Binds K fd ps []
theorem pe_pr {f : Str} (c : Prp X.prog X.w X.K X.mg X.base k C f sp) (hr : Room j X.A) (hk : k + 1 ≤ j) (he : PE X o ta) (hab : attributeBase o f X.env (eval o X.env) = eval o X.env := by rfl) : PE X (.Attribute o f pos) (tProp C sp [] C8.E0 ta) := by
  obtain ⟨_, _, _, _, cl, q, F, b⟩ := c.ex
  exact pe_prop he cl q F (hr.mono hk) b .nil pass0 hab
end
section
variable {P : Program} {w : World} {K : Frg} {mg : Str → Option Value} {base : Heap} {x qual : Str} {params : Arguments} {body : List Stmt} {scope : Scope} {f : Addr} {fd : FuncData} {N ps : List Str} {k : Nat} {sp : Sp} {C : Addr}
theorem metD (F : FunD K x qual params body scope [] [] f fd) (cl : Cls K C) (me : Meth K C x f) (S : FnScope N ps scope)
    (hb : ∀ (kV doc pm : Value) (an : Option Addr) (cdv ct : Value) (us : List Value), us.length = ps.length → bindArgs (PySem.W.fnOf x qual params body scope .none kV doc pm an cdv ct) ⟨us, []⟩ = pure (ps.zip us))
    (len : ∀ vs H Q E, sp vs H Q E → vs.length = ps.length)
    (hbody : ∀ (cdv : Value) (A : Around) (outer : List Env) (s : Shared) (H : Hp) (vs : List V) (Q : VK) (E : XK), Room k (A.deeper (envOfC qual scope s.heap.objs.size f cdv)) → sp vs H Q E →
      ∃ t, PSs (cxOf CX0 P w K mg base N qual scope f cdv A outer s H E).nox body t ∧ t { nx := fun _ H' => Q .non H', rt := Q } (start N vs) H) : Met P w K mg base (k + 1) C x sp [] :=
  ⟨f, fd, ps, [], cl, me, fnD F S len hbody, F.bindsN hb, .nil⟩
theorem makD {y : Str} (F : FunD K x qual params body scope [] [] f fd) (M : Mk K C f) (m : mg y = some (.ref C)) (S : FnScope N ps scope)
    (hb : ∀ (kV doc pm : Value) (an : Option Addr) (cdv ct : Value) (us : List Value), us.length = ps.length → bindArgs (PySem.W.fnOf x qual params body scope .none kV doc pm an cdv ct) ⟨us, []⟩ = pure (ps.zip us))
    (len : ∀ vs H Q E, sp vs H Q E → vs.length = ps.length)
    (hbody : ∀ (cdv : Value) (A : Around) (outer : List Env) (s : Shared) (H : Hp) (vs : List V) (Q : VK) (E : XK), Room k (A.deeper (envOfC qual scope s.heap.objs.size f cdv)) → sp vs H Q E →
      ∃ t, PSs (cxOf CX0 P w K mg base N qual scope f cdv A outer s H E).nox body t ∧ t { nx := fun _ H' => Q .non H', rt := Q } (start N vs) H) : Mak P w K mg base (k + 1) y C sp [] :=
  ⟨f, fd, ps, [], M, fnD F S len hbody, m, F.bindsN hb, .nil⟩
theorem prpD {y : Str} {q : Addr} (F : FunD K x qual params body scope [] [] f fd) (cl : Cls K C) (pr : PropOf K C y q f) (S : FnScope N ps scope)
    (hb : ∀ (kV doc pm : Value) (an : Option Addr) (cdv ct : Value) (us : List Value), us.length = ps.length → bindArgs (PySem.W.fnOf x qual params body scope .none kV doc pm an cdv ct) ⟨us, []⟩ = pure (ps.zip us))
    (len : ∀ vs H Q E, sp vs H Q E → vs.length = ps.length)
    (hbody : ∀ (cdv : Value) (A : Around) (outer : List Env) (s : Shared) (H : Hp) (vs : List V) (Q : VK) (E : XK), Room k (A.deeper (envOfC qual scope s.heap.objs.size f cdv)) → sp vs H Q E →
      ∃ t, PSs (cxOf CX0 P w K mg base N qual scope f cdv A outer s H E).nox body t ∧ t { nx := fun _ H' => Q .non H', rt := Q } (start N vs) H) : Prp P w K mg base (k + 1) C y sp :=
  ⟨q, f, fd, ps, cl, pr, fnD F S len hbody, F.bindsN hb⟩
end
section
variable {σ : St} {H : Hp} {n b c : St → Hp → Prop} {r : VK} {Q : VK} {K : Frg} {a C dx : Addr} {fs : List (Str × V)} {f : Str} {v : V}
theorem r_fld {te : TE} (h : te σ H fun x H1 => ∃ a C dx fs v, x = .ref a ∧ H1 a = some (.ins C dx fs) ∧ Cls K C ∧ NoAttr K C f ∧ fs.lookup f = some v ∧ Q v H1) : tFld K te f σ H Q := h
theorem r_fget {R : V → Prop} (h : H a = some (.ins C dx fs)) (cl : Cls K C) (na : NoAttr K C f) (l : fs.lookup f = some v) (q : R v) :
    ∃ a' C dx fs v, V.ref a = .ref a' ∧ H a' = some (.ins C dx fs) ∧ Cls K C ∧ NoAttr K C f ∧ fs.lookup f = some v ∧ R v := ⟨a, C, dx, fs, v, rfl, h, cl, na, l, q⟩
theorem r_sfld {ta tv : TE} (h : tv σ H fun y H1 => ta σ H1 fun x H2 => ∃ a C dx fs, x = .ref a ∧ H2 a = some (.ins C dx fs) ∧ Cls K C ∧ NoAttr K C f ∧ fs.length < 1000 ∧ n σ (upd H2 a (.ins C dx (putF f y fs)))) : sFld K ta tv f ⟨n, r, b, c⟩ σ H := h
theorem r_fset {R : Hp → Prop} {fs' : List (Str × V)} (h : H a = some (.ins C dx fs)) (cl : Cls K C) (na : NoAttr K C f) (hl : fs.length < 1000) (e : putF f v fs = fs') (q : R (upd H a (.ins C dx fs'))) :
    ∃ a' C dx fs, V.ref a = .ref a' ∧ H a' = some (.ins C dx fs) ∧ Cls K C ∧ NoAttr K C f ∧ fs.length < 1000 ∧ R (upd H a' (.ins C dx (putF f v fs))) := ⟨a, C, dx, fs, rfl, h, cl, na, hl, by rw [e]; exact q⟩
theorem r_meth {m : Str} {sp : Sp} {dvs : List V} {E : XK} {ta : TE} {t : TA} (h : ta σ H fun x H1 => ∃ a dx fs, x = .ref a ∧ H1 a = some (.ins C dx fs) ∧ fs.lookup m = none ∧ t σ H1 fun vs H2 => sp (x :: (vs ++ dvs)) H2 Q E) : tMeth C m sp dvs E ta t σ H Q := h
theorem r_mget {m : Str} {R : Prop} (h : H a = some (.ins C dx fs)) (l : fs.lookup m = none) (q : R) : ∃ a' dx fs, V.ref a = .ref a' ∧ H a' = some (.ins C dx fs) ∧ fs.lookup m = none ∧ R := ⟨a, dx, fs, rfl, h, l, q⟩
theorem r_prop {sp : Sp} {dvs : List V} {E : XK} {ta : TE} (h : ta σ H fun x H1 => ∃ a dx fs, x = .ref a ∧ H1 a = some (.ins C dx fs) ∧ sp (.ref a :: dvs) H1 Q E) : tProp C sp dvs E ta σ H Q := h
theorem r_pget {R : Addr → Prop} (h : H a = some (.ins C dx fs)) (q : R a) : ∃ a' dx fs, V.ref a = .ref a' ∧ H a' = some (.ins C dx fs) ∧ R a' := ⟨a, dx, fs, rfl, h, q⟩
theorem r_make {sp : Sp} {dvs : List V} {E : XK} {t : TA} (h : t σ H fun vs H1 => ∀ x dx, H1 x = none → H1 dx = none → dx ≠ x → sp (.ref x :: (vs ++ dvs)) (upd (upd H1 dx (.own x)) x (.ins C dx [])) (fun v H2 => v = .non ∧ Q (.ref x) H2) E) : tMake C sp dvs E t σ H Q := h
end

/-! ### loops over rows -/
section
variable {X : Cx} {tg iter : Expr}
/-- one of two ways to come by an iterator -/
theorem pi_or {u v : TI} (h1 : PI X tg iter u) (h2 : PI X tg iter v) : PI X tg iter (fun σ H R => u σ H R ∨ v σ H R) := by
  refine ⟨fun pins s σ H R I h => ?_⟩
  rcases h with h | h
  · exact h1.run pins s σ H R I h
  · exact h2.run pins s σ H R I h
end
set_option maxHeartbeats 8000000 in
theorem meets_enum1 {v : Value} {o : Obj} {G : Heap → Prop} (B : Begins v o G) :
    Meets (Builtin.«enumerate.__new__» ⟨[.type "enumerate", v], []⟩) (fun _ R s => G s.heap ∧
      R (.ok (.ret (.ref (s.heap.push o).objs.size))) { s with heap := (s.heap.push o).push { cls := .type "enumerate", data := .fields #[.none, .bool false, .ref s.heap.objs.size, rawInt 0, .none, .none] } }) :=
  .of_wp fun prog w A R s h => by
    obtain ⟨hp, g, d, tk, os⟩ := s
    obtain ⟨h1, h⟩ := h
    have hsub := sub_enumerate
    have q1 : ∀ {A' : Around} {E : Value → Shared → Prop} {Q : Value → Shared → Prop}, Q (.ref hp.objs.size) ⟨hp.push o, g, d, tk, os⟩ → wpAny (model prog w) A' (pyIter v) Q E ⟨hp, g, d, tk, os⟩ :=
      fun q => B.iter prog w _ _ ⟨hp, g, d, tk, os⟩ _ h1 q
    wp_walk using q1
    refine wpAny_stack_any fun st => wpAny_pure ?_
    split
    · rename_i c _ _ _ _ _
      cases (c == Value.type "enumerate")
      · wp_walk using q1
        exact ⟨_, rfl, h⟩
      · wp_walk using q1
        exact ⟨_, rfl, h⟩
    · wp_walk using q1
      exact ⟨_, rfl, h⟩
theorem call_enum1 {prog : Program} {w : World} {A : Around} {E : Value → Shared → Prop} {s : Shared} {v : Value} {o : Obj} {G : Heap → Prop} {Q : Value → Shared → Prop} (B : Begins v o G) (h1 : G s.heap)
    (h : ∀ h', IsEnum h' (s.heap.objs.size + 1) s.heap.objs.size 0 .none → h'.get? s.heap.objs.size = some o → h'.objs.size = s.heap.objs.size + 2 →
      (∀ b o, s.heap.get? b = some o → h'.get? b = some o) → Q (.ref (s.heap.objs.size + 1)) { s with heap := h' }) : wpAny (model prog w) A (call (.type "enumerate") [v]) Q E s := by
  refine callType_new F.called_enumerate (by decide) (F.typeCall_enumerate_1 _) (F.newCall_enumerate_1 _) (fun obj => F.args_object_init_2 obj _) F.entry_enumerate_new (meets_enum1 B) ⟨h1, ?_⟩
  have hz : (s.heap.push o).objs.size = s.heap.objs.size + 1 := Heap.size_push ..
  show _ ∧ _
  rw [hz]
  have he := Heap.get?_push_size (s.heap.push o) (o := { cls := .type "enumerate", data := .fields #[.none, .bool false, .ref s.heap.objs.size, rawInt 0, .none, .none] }) rfl
  rw [hz] at he
  exact ⟨⟨_, he, rfl⟩, h _ he (Heap.get?_push_of_some _ (Heap.get?_push_size _ B.free)) (by rw [Heap.size_push, hz]) fun b o x => Heap.get?_push_of_some _ (Heap.get?_push_of_some _ x)⟩
/-- the tuple at a, each item in a new pair -/
def Itet (K : PySem.W.Frag) (a : Addr) (xs : List V) : It :=
  ⟨fun i H => SqT K H a xs ∧ i < xs.length, fun i H v H' => ∃ T x, v = .ref T ∧ H T = none ∧ H' = upd H T (.tup [.int (i : Nat), x]) ∧ xs[i]? = some x, fun i H => SqT K H a xs ∧ xs.length ≤ i⟩
theorem turn_enumT {P : Program} {w : World} {K : PySem.W.Frag} {elts : List Expr} {kk : Nat} {tpos : Pos} (a e it : Addr) (xs : List V) (hta : a ≠ it) :
    Turn P w K (.Tuple elts kk tpos) (Itet K a xs) [e, it] e (fun i h => (∃ old, IsEnum h e it ((i : Nat) : Int) old) ∧ h.IsTupleIter it a i ∧ e ≠ it ∧ i ≤ xs.length) where
  mem := by simp
  obj := fun i h st b hb => by
    obtain ⟨⟨old, he⟩, ⟨o, ho, hc, hd⟩, _⟩ := st
    have e' : b = e ∨ b = it := by simpa using hb
    rcases e' with z | z
    · rw [z]
      exact ⟨_, he, fun v q => nomatch q⟩
    · rw [z]
      exact ⟨o, ho, fun v q => by rw [hd] at q; cases q⟩
  keep := fun i h h' st k => let ⟨⟨old, he⟩, hi, hne, hn⟩ := st; ⟨⟨old, k e (by simp) _ he⟩, hi.at fun o q => k it (by simp) o q, hne, hn⟩
  item := by
    intro X hP hw hK hc i pins s σ H E I hf st hg
    subst hP hw hK
    obtain ⟨⟨old, he⟩, hit, hne, hn⟩ := st
    obtain ⟨hq, hlt⟩ := hg
    obtain ⟨its, rv, p, hz⟩ := I.tuple hq
    have p' : s.heap.IsTuple a its.toArray := p
    have hl := rv.length
    have hel : e < s.heap.objs.size := Heap.lt_size he
    have hil : it < s.heap.objs.size := by
      obtain ⟨_, q, _⟩ := hit
      exact Heap.lt_size q
    have hea : e ≠ a := fun q => by
      obtain ⟨o, ho, hc', _⟩ := p'
      rw [← q, he] at ho
      cases ho
      have z : Value.type "enumerate" = Value.type "tuple" := hc'
      injection z with z
      exact absurd z (by decide)
    have D := Draws.tuple (prog := X.prog) (w := X.w) (A := X.A.in1) (I.ok.hd hc) it a hta its.toArray
    refine wpAny_pyNext_enum_itemD D he ⟨hit, p'⟩ (by simpa [← hl] using hlt) hne (by simp [hne, hea]) fun u h' tk hu ho hs' hT hsz hk => ?_
    obtain ⟨x, hx, ru⟩ : ∃ x, xs[i]? = some x ∧ RelV x u := by
      obtain ⟨u', hu', r'⟩ := rv.get (List.getElem?_eq_getElem hlt)
      have e1 : its[i]? = some u := by simpa using hu
      rw [e1] at hu'
      cases hu'
      exact ⟨_, List.getElem?_eq_getElem hlt, r'⟩
    refine ⟨_, rfl, wpAny_letOwnedTupleGo_enum (s := { s with heap := h', toks := tk + 1 }) ho fun h'' he' sb => ?_⟩
    have hT2 : h''.get? s.heap.objs.size = some { cls := .type "tuple", data := .seq #[.int i tk, u] } := (sb.2 _ (Nat.ne_of_gt hel)).trans hT
    have new : ObjOk X.prog X.w (upd H s.heap.objs.size (.tup [.int (i : Nat), x])) h'' s.heap.objs.size (.tup [.int (i : Nat), x]) :=
      ⟨by show 2 ≤ sizeLine; decide, [.int i tk, u], .cons ⟨_, rfl⟩ (.cons ru .nil), ⟨_, hT2, rfl, _, rfl⟩⟩
    have I1 : Inv X pins σ (upd H s.heap.objs.size (.tup [.int (i : Nat), x])) { s with heap := h'', toks := tk + 1 } :=
      I.turnedNew (ch := [e, it]) (fun b ob hb q => (sb.2 b (fun z => hb (by simp [z]))).trans (hk b ob (fun z => hb (by simp [z])) (fun z => hb (by simp [z])) q)) hf (Nat.le_refl _) new
    refine ⟨.ref s.heap.objs.size, _, I1, rfl, ⟨_, x, rfl, I.hok.fresh (Nat.le_refl _), rfl, hx⟩, ⟨⟨u, ?_⟩, hs'.1.at fun o q => (sb.2 it (Ne.symm hne)).trans q, hne, hlt⟩, fun b hb => ?_⟩
    · have e1 : ((i + 1 : Nat) : Int) = (i : Int) + 1 := by omega
      rw [e1]
      exact he'
    · have hb' : b < s.heap.objs.size := by
        have e' : b = e ∨ b = it := by simpa using hb
        rcases e' with z | z
        · rw [z]
          exact hel
        · rw [z]
          exact hil
      rw [upd_ne (Nat.ne_of_lt hb')]
      exact (hf b hb).1
  done := by
    intro X hP hw hK hc i pins s σ H E I hf st hg
    subst hP hw hK
    obtain ⟨⟨old, he⟩, hit, hne, hn⟩ := st
    obtain ⟨hq, hx⟩ := hg
    obtain ⟨its, rv, p, hz⟩ := I.tuple hq
    have p' : s.heap.IsTuple a its.toArray := p
    obtain ⟨f0, f1, f2, f3, f4, f5⟩ := hf it (by simp)
    have hl := rv.length
    have hi : i = its.toArray.size := by
      simp
      omega
    subst hi
    have D := Draws.tuple (prog := X.prog) (w := X.w) (A := X.A.in1) (I.ok.hd hc) it a hta its.toArray
    exact wpAny_pyNext_enum_endD D he ⟨hit, p'⟩ fun h' eb => ⟨rfl, I.turned (t' := s.toks) (fun b o hb q => eb b o hb q) f0 f1 f3 f4 f5⟩
  self := fun A i s Q E st h => let ⟨⟨_, he⟩, _⟩ := st; wpAny_pyIter_enum he h
def iEnumT (K : PySem.W.Frag) (ta : TA) : TI := fun σ H R => ta σ H fun vs H1 => ∃ a xs, vs = [.ref a] ∧ SqT K H1 a xs ∧ R (Itet K a xs) H1
theorem pi_enumT {X : Cx} {e : Expr} {ta : TA} {p pos tpos : Pos} {elts : List Expr} {kk : Nat} (hg : Gl X "enumerate") (hm : X.mg "enumerate" = none) (ha : PA X [e] ta) (hs : starEach [e] X.env = [(false, eval e X.env)] := by rfl) :
    PI X (.Tuple elts kk tpos) (.Call (.Name "enumerate" p) [e] [] pos) (iEnumT X.K ta) := by
  refine ⟨fun pins s σ H R I h => ?_⟩
  refine PyProof.Rows.Call_ (ld_blt I hg hm PyProof.Rows.boot_enumerate (PyProof.Rows.callWith_type1 (thn (ha.run pos pins s σ H _ I h) fun us s1 ⟨vs, H1, I1, r1, q1⟩ => ?_) hs rfl))
  obtain ⟨a, xs, ex, hq, q⟩ := q1
  subst ex
  cases r1 with
  | cons r rr =>
    cases rr
    cases r
    obtain ⟨its, rv, p', hz⟩ := I1.tuple hq
    have p2 : s1.heap.IsTuple a its.toArray := p'
    refine call_enum1 (begins_tuple a its.toArray) p2 fun h' he hit hsz hk => wpAny_pyIter_enum he ?_
    have I2 : Inv X pins σ H1 { s1 with heap := h' } := I1.kept (t' := s1.toks) hk
    have hal : a < s1.heap.objs.size := by
      obtain ⟨_, q, _⟩ := p2
      exact Heap.lt_size q
    refine ⟨s1.heap.objs.size + 1, [s1.heap.objs.size + 1, s1.heap.objs.size], _, _, H1, rfl, I2, turn_enumT a (s1.heap.objs.size + 1) s1.heap.objs.size xs (Nat.ne_of_lt hal), ⟨⟨.none, he⟩, ⟨_, hit, rfl, rfl⟩, Nat.succ_ne_self _, Nat.zero_le _⟩, fun b hb => ?_, q⟩
    have e' : b = s1.heap.objs.size + 1 ∨ b = s1.heap.objs.size := by simpa using hb
    have hle : s1.heap.objs.size ≤ b := by
      rcases e' with z | z
      · rw [z]
        exact Nat.le_add_right _ _
      · rw [z]
        exact Nat.le_refl _
    exact I1.fpOk hle (I1.hok.fresh hle)
/-! ### the turns of such loops -/
section
variable {σ : St} {H : Hp} {n b c : St → Hp → Prop} {r : VK} {Q : VK} {K : PySem.W.Frag}
theorem r_each {J : It} {g : TG} {tb : TS} (N : Nat) (Pv : Nat → St → Hp → Prop) (h0 : Pv 0 σ H)
    (hs : ∀ (i : Nat) σ H, i < N → Pv i σ H → J.go i H ∧ ∀ x H', J.yld i H x H' → g x σ H' fun σ2 H2 => tb ⟨Pv (i + 1), r, n, Pv (i + 1)⟩ σ2 H2) (hd : ∀ σ H, Pv N σ H → J.stop N H ∧ n σ H) :
    ∃ W : Nat → Nat → St → Hp → Prop, (∃ m, W 0 m σ H) ∧ ∀ i m σ H, W i m σ H →
    (J.stop i H ∧ n σ H) ∨ (J.go i H ∧ ∃ N : St → Hp → Prop, (∀ σ' H', N σ' H' → ∃ m', m' < m ∧ W (i + 1) m' σ' H') ∧ ∀ x H', J.yld i H x H' → g x σ H' fun σ2 H2 => tb ⟨N, r, n, N⟩ σ2 H2) := by
  refine ⟨fun i m σ H => i ≤ N ∧ m = N - i ∧ Pv i σ H, ⟨N, Nat.zero_le _, rfl, h0⟩, fun i m σ H ⟨hi, hm, hp⟩ => ?_⟩
  by_cases c : i < N
  · obtain ⟨h1, h2⟩ := hs i σ H c hp
    exact .inr ⟨h1, Pv (i + 1), fun σ' H' q => ⟨N - (i + 1), by omega, c, rfl, q⟩, h2⟩
  · have e : i = N := by omega
    subst e
    exact .inl (hd σ H hp)
/-- a for over a list -/
theorem r_eachL {g : TG} {tb : TS} {a : Addr} {xs : List V} (Pv : Nat → St → Hp → Prop) (h0 : Pv 0 σ H) (hl : ∀ i σ H, Pv i σ H → SqL K H a xs)
    (hs : ∀ (i : Nat) x σ H, xs[i]? = some x → Pv i σ H → g x σ H fun σ2 H2 => tb ⟨Pv (i + 1), r, n, Pv (i + 1)⟩ σ2 H2) (hd : ∀ σ H, Pv xs.length σ H → n σ H) :
    ∃ W : Nat → Nat → St → Hp → Prop, (∃ m, W 0 m σ H) ∧ ∀ i m σ H, W i m σ H →
    ((Itl K a).stop i H ∧ n σ H) ∨ ((Itl K a).go i H ∧ ∃ N : St → Hp → Prop, (∀ σ' H', N σ' H' → ∃ m', m' < m ∧ W (i + 1) m' σ' H') ∧ ∀ x H', (Itl K a).yld i H x H' → g x σ H' fun σ2 H2 => tb ⟨N, r, n, N⟩ σ2 H2) := by
  refine r_each xs.length Pv h0 (fun i σ H hi p => ⟨⟨xs, xs[i], hl i σ H p, List.getElem?_eq_getElem hi⟩, ?_⟩) fun σ H p => ⟨⟨xs, hl _ σ H p, Nat.le_refl _⟩, hd σ H p⟩
  rintro x _ ⟨rfl, e⟩
  exact hs i x σ _ (e xs (hl i σ _ p)) p
/-- .. a tuple -/
theorem r_eachT {g : TG} {tb : TS} {a : Addr} {xs : List V} (Pv : Nat → St → Hp → Prop) (h0 : Pv 0 σ H) (hl : ∀ i σ H, Pv i σ H → SqT K H a xs)
    (hs : ∀ (i : Nat) x σ H, xs[i]? = some x → Pv i σ H → g x σ H fun σ2 H2 => tb ⟨Pv (i + 1), r, n, Pv (i + 1)⟩ σ2 H2) (hd : ∀ σ H, Pv xs.length σ H → n σ H) :
    ∃ W : Nat → Nat → St → Hp → Prop, (∃ m, W 0 m σ H) ∧ ∀ i m σ H, W i m σ H →
    ((Itt K a).stop i H ∧ n σ H) ∨ ((Itt K a).go i H ∧ ∃ N : St → Hp → Prop, (∀ σ' H', N σ' H' → ∃ m', m' < m ∧ W (i + 1) m' σ' H') ∧ ∀ x H', (Itt K a).yld i H x H' → g x σ H' fun σ2 H2 => tb ⟨N, r, n, N⟩ σ2 H2) := by
  refine r_each xs.length Pv h0 (fun i σ H hi p => ⟨⟨xs, xs[i], hl i σ H p, List.getElem?_eq_getElem hi⟩, ?_⟩) fun σ H p => ⟨⟨xs, hl _ σ H p, Nat.le_refl _⟩, hd σ H p⟩
  rintro x _ ⟨rfl, e⟩
  exact hs i x σ _ (e xs (hl i σ _ p)) p
/-- .. with the numbers of the turns -/
theorem r_eachE {g : TG} {tb : TS} {a : Addr} {xs : List V} (Pv : Nat → St → Hp → Prop) (h0 : Pv 0 σ H) (hl : ∀ i σ H, Pv i σ H → SqL K H a xs)
    (hs : ∀ (i : Nat) x σ H T, xs[i]? = some x → Pv i σ H → H T = none → g (.ref T) σ (upd H T (.tup [.int (i : Nat), x])) fun σ2 H2 => tb ⟨Pv (i + 1), r, n, Pv (i + 1)⟩ σ2 H2) (hd : ∀ σ H, Pv xs.length σ H → n σ H) :
    ∃ W : Nat → Nat → St → Hp → Prop, (∃ m, W 0 m σ H) ∧ ∀ i m σ H, W i m σ H →
    ((Ite K a).stop i H ∧ n σ H) ∨ ((Ite K a).go i H ∧ ∃ N : St → Hp → Prop, (∀ σ' H', N σ' H' → ∃ m', m' < m ∧ W (i + 1) m' σ' H') ∧ ∀ x H', (Ite K a).yld i H x H' → g x σ H' fun σ2 H2 => tb ⟨N, r, n, N⟩ σ2 H2) := by
  refine r_each xs.length Pv h0 (fun i σ H hi p => ⟨⟨xs, xs[i], hl i σ H p, List.getElem?_eq_getElem hi⟩, ?_⟩) fun σ H p => ⟨⟨xs, hl _ σ H p, Nat.le_refl _⟩, hd σ H p⟩
  rintro _ _ ⟨T, x, rfl, hT, rfl, e⟩
  exact hs i x σ _ T (e xs (hl i σ _ p)) p hT
theorem r_eachET {g : TG} {tb : TS} {a : Addr} {xs : List V} (Pv : Nat → St → Hp → Prop) (h0 : Pv 0 σ H) (hl : ∀ i σ H, Pv i σ H → SqT K H a xs)
    (hs : ∀ (i : Nat) x σ H T, xs[i]? = some x → Pv i σ H → H T = none → g (.ref T) σ (upd H T (.tup [.int (i : Nat), x])) fun σ2 H2 => tb ⟨Pv (i + 1), r, n, Pv (i + 1)⟩ σ2 H2) (hd : ∀ σ H, Pv xs.length σ H → n σ H) :
    ∃ W : Nat → Nat → St → Hp → Prop, (∃ m, W 0 m σ H) ∧ ∀ i m σ H, W i m σ H →
    ((Itet K a xs).stop i H ∧ n σ H) ∨ ((Itet K a xs).go i H ∧ ∃ N : St → Hp → Prop, (∀ σ' H', N σ' H' → ∃ m', m' < m ∧ W (i + 1) m' σ' H') ∧ ∀ x H', (Itet K a xs).yld i H x H' → g x σ H' fun σ2 H2 => tb ⟨N, r, n, N⟩ σ2 H2) := by
  refine r_each xs.length Pv h0 (fun i σ H hi p => ⟨⟨hl i σ H p, hi⟩, ?_⟩) fun σ H p => ⟨⟨hl _ σ H p, Nat.le_refl _⟩, hd σ H p⟩
  rintro _ _ ⟨T, x, rfl, hT, rfl, e⟩
  exact hs i x σ _ T e p hT
/-- .. of range(i, j, c) -/
theorem r_eachR {g : TG} {tb : TS} {i0 j0 c0 : Int} (k : Nat) (hc : RgC i0 j0 c0 k) (Pv : Nat → St → Hp → Prop) (h0 : Pv 0 σ H)
    (hs : ∀ (i : Nat) σ H, i < k → Pv i σ H → g (.int (i0 + i * c0)) σ H fun σ2 H2 => tb ⟨Pv (i + 1), r, n, Pv (i + 1)⟩ σ2 H2) (hd : ∀ σ H, Pv k σ H → n σ H) :
    RgC i0 j0 c0 k ∧ ∃ W : Nat → Nat → St → Hp → Prop, (∃ m, W 0 m σ H) ∧ ∀ i m σ H, W i m σ H →
    ((Itc i0 c0 k).stop i H ∧ n σ H) ∨ ((Itc i0 c0 k).go i H ∧ ∃ N : St → Hp → Prop, (∀ σ' H', N σ' H' → ∃ m', m' < m ∧ W (i + 1) m' σ' H') ∧ ∀ x H', (Itc i0 c0 k).yld i H x H' → g x σ H' fun σ2 H2 => tb ⟨N, r, n, N⟩ σ2 H2) := by
  refine ⟨hc, r_each k Pv h0 (fun i σ H hi p => ⟨hi, ?_⟩) fun σ H p => ⟨Nat.le_refl _, hd σ H p⟩⟩
  rintro _ _ ⟨rfl, rfl⟩
  exact hs i σ _ hi p
theorem r_rng2 {ta : TA} {R : It → Hp → Prop} (h : ta σ H fun vs H1 => ∃ i j : Int, vs = [.int i, .int j] ∧ (-(2 ^ 62) ≤ i ∧ i < 2 ^ 62 ∧ -(2 ^ 62) ≤ j ∧ j < 2 ^ 62) ∧ R (Itr i (j - i).toNat) H1) : iRng2 ta σ H R := h
theorem r_rng3 {ta : TA} {R : It → Hp → Prop} (h : ta σ H fun vs H1 => ∃ (i j c : Int) (n : Nat), vs = [.int i, .int j, .int c] ∧ RgC i j c n ∧ R (Itc i c n) H1) : iRng3 ta σ H R := h
theorem r_itL {tl : TE} {R : It → Hp → Prop} (h : tl σ H fun x H1 => ∃ a, x = .ref a ∧ (∃ xs, SqL K H1 a xs) ∧ R (Itl K a) H1) : iList K tl σ H R := h
theorem r_itT {tl : TE} {R : It → Hp → Prop} (h : tl σ H fun x H1 => ∃ a, x = .ref a ∧ (∃ xs, SqT K H1 a xs) ∧ R (Itt K a) H1) : iTup K tl σ H R := h
theorem r_itE {ta : TA} {R : It → Hp → Prop} (h : ta σ H fun vs H1 => ∃ a xs, vs = [.ref a] ∧ SqL K H1 a xs ∧ R (Ite K a) H1) : iEnum K ta σ H R := h
theorem r_itET {ta : TA} {R : It → Hp → Prop} (h : ta σ H fun vs H1 => ∃ a xs, vs = [.ref a] ∧ SqT K H1 a xs ∧ R (Itet K a xs) H1) : iEnumT K ta σ H R := h
theorem r_eqB {i j : Bool} (h : Q (.bl (decide (i = j))) H) : rEq (.bl i) (.bl j) H Q := by
  have e : decide (V.bl i = V.bl j) = decide (i = j) := by simp
  exact ⟨rfl, by rw [e]; exact h⟩
theorem r_neB {i j : Bool} (h : Q (.bl (!decide (i = j))) H) : rNe (.bl i) (.bl j) H Q := by
  have e : decide (V.bl i = V.bl j) = decide (i = j) := by simp
  exact ⟨rfl, by rw [e]; exact h⟩
end
/-- an if whose test is known -/
theorem r_ifB {σ : St} {H : Hp} {D : Ends} {tt : TT} {t u : TS} (b : Bool) (ht : ∀ R : Bool → Hp → Prop, R b H → tt σ H R) (h : if b = true then t D σ H else u D σ H) : tIfS tt t u D σ H := ht _ h

/-! ### an attribute as a target among others -/
section
variable {X : Cx} {o : Expr} {ta : TE} {f : Str} {pos : Pos}
def gFld (K : PySem.W.Frag) (ta : TE) (f : Str) : TG := fun v σ H R => ta σ H fun x H1 => ∃ a C dx fs, x = .ref a ∧ H1 a = some (.ins C dx fs) ∧ Cls K C ∧ NoAttr K C f ∧ fs.length < 1000 ∧ R σ (upd H1 a (.ins C dx (putF f v fs)))
theorem pg_fld (ha : PE X o ta) : PG X (.Attribute o f pos) (gFld X.K ta f) := by
  refine ⟨fun pins s σ H v u Q I r h => ?_⟩
  rw [assign_Attribute]
  refine wpAny_bind (wpAny_holding (thn (ha.run pins s σ H _ I h) fun ov s2 ⟨x, H2, I2, rx, a, C, dx, fs, ex, ea, c, n, l, q2⟩ => ?_))
  subst ex
  obtain rfl : ov = Value.ref a := rx
  refine wpAny_bind (wpAny_standAt (wpAny_bind (wpAny_holding ?_)))
  exact setattr_ok I2 ea c n l r fun s3 I3 => wpAny_release ⟨σ, _, I3, q2⟩
end

local macro_rules | `(tactic| walk_at "rv") => `(tactic| ((with_reducible apply r_var); (· rfl)))
local macro_rules | `(tactic| walk_at "rd1") => `(tactic| first
  | (with_reducible refine r_seq ?_)
  | (with_reducible refine r_asg ?_)
  | (with_reducible refine r_name ?_)
  | ((with_reducible apply r_var); (· rfl))
  | (with_reducible refine r_c ?_)
  | (with_reducible refine r_op ?_)
  | (with_reducible refine r_I0 ?_)
  | (with_reducible refine r_eqI ?_)
  | (with_reducible refine r_neI ?_)
  | (with_reducible refine r_eqS ?_)
  | (with_reducible refine r_neS ?_)
  | (with_reducible refine r_cons ?_)
  | (with_reducible refine r_nil ?_)
  | (with_reducible refine r_if ?_)
  | (with_reducible refine r_test ?_)
  | (with_reducible refine r_B ?_)
  | (with_reducible refine r_bl ?_)
  | (with_reducible refine r_ret ?_)
  | (with_reducible refine r_drop ?_)
  | (with_reducible refine r_un ?_)
  | (with_reducible refine r_U ?_)
  | (with_reducible refine r_CB ?_)
  | (with_reducible refine r_call ?_)
  | (with_reducible refine r_retN ?_)
  | (with_reducible refine r_next ?_)
  | (with_reducible refine r_brk ?_)
  | (with_reducible refine r_ifE ?_)
  | (with_reducible refine r_and ?_)
  | (with_reducible refine r_or ?_)
  | (with_reducible refine r_not ?_)
  | (with_reducible refine r_andV ?_)
  | (with_reducible refine r_orV ?_)
  | (with_reducible refine r_notV ?_)
  | (with_reducible refine r_chain ?_)
  | (with_reducible refine r_iteF ?_)
  | (with_reducible refine r_iteT ?_)
  | (with_reducible refine r_iteNT ?_)
  | (with_reducible refine r_iteNF ?_)
  | ((with_reducible apply r_I); (· first | decide | exact ⟨by decide, by decide⟩ | exact .inr ⟨by decide, by decide⟩ | exact .inl ⟨by decide, by decide⟩ | exact ⟨by decide, by decide, by decide⟩))
  | (with_reducible refine r_bm ?_)
  | (with_reducible refine r_bm0 ?_)
  | (with_reducible refine r_sub ?_)
  | (with_reducible refine r_yes ?_)
  | (with_reducible refine r_fld ?_)
  | (with_reducible refine r_sfld ?_)
  | (with_reducible refine r_meth ?_)
  | (with_reducible refine r_prop ?_)
  | (with_reducible refine r_make ?_)
  | (with_reducible refine r_gcons ?_)
  | (with_reducible refine r_gnil ?_)
  | (with_reducible refine r_rfl ?_)
  | (with_reducible refine r_for ?_)
  | (with_reducible refine r_rng1 ?_)
  | (with_reducible refine r_int1 ?_)
  | (with_reducible refine r_abs ?_)
  | (with_reducible refine r_tup ?_)
  | (with_reducible refine r_lst ?_))
local macro_rules | `(tactic| walk_at "rd") => `(tactic| repeat (walk_at "rd1"))
local macro_rules | `(tactic| walk_at "ri1") => `(tactic| first
  | (with_reducible refine r_seq ?_)
  | (with_reducible refine r_asg ?_)
  | (with_reducible refine r_name ?_)
  | ((with_reducible apply r_var); (· rfl))
  | (with_reducible refine r_c ?_)
  | (with_reducible refine r_op ?_)
  | (with_reducible refine r_I0 ?_)
  | (with_reducible refine r_eqI ?_)
  | (with_reducible refine r_neI ?_)
  | (with_reducible refine r_eqS ?_)
  | (with_reducible refine r_neS ?_)
  | (with_reducible refine r_cons ?_)
  | (with_reducible refine r_nil ?_)
  | (with_reducible refine r_test ?_)
  | (with_reducible refine r_B ?_)
  | (with_reducible refine r_bl ?_)
  | (with_reducible refine r_ret ?_)
  | (with_reducible refine r_drop ?_)
  | (with_reducible refine r_un ?_)
  | (with_reducible refine r_U ?_)
  | (with_reducible refine r_CB ?_)
  | (with_reducible refine r_call ?_)
  | (with_reducible refine r_retN ?_)
  | (with_reducible refine r_next ?_)
  | (with_reducible refine r_brk ?_)
  | (with_reducible refine r_ifE ?_)
  | (with_reducible refine r_and ?_)
  | (with_reducible refine r_or ?_)
  | (with_reducible refine r_not ?_)
  | (with_reducible refine r_andV ?_)
  | (with_reducible refine r_orV ?_)
  | (with_reducible refine r_notV ?_)
  | (with_reducible refine r_chain ?_)
  | (with_reducible refine r_iteF ?_)
  | (with_reducible refine r_iteT ?_)
  | (with_reducible refine r_iteNT ?_)
  | (with_reducible refine r_iteNF ?_)
  | ((with_reducible apply r_I); (· first | decide | exact ⟨by decide, by decide⟩ | exact .inr ⟨by decide, by decide⟩ | exact .inl ⟨by decide, by decide⟩ | exact ⟨by decide, by decide, by decide⟩))
  | (with_reducible refine r_bm ?_)
  | (with_reducible refine r_bm0 ?_)
  | (with_reducible refine r_sub ?_)
  | (with_reducible refine r_yes ?_)
  | (with_reducible refine r_fld ?_)
  | (with_reducible refine r_sfld ?_)
  | (with_reducible refine r_meth ?_)
  | (with_reducible refine r_prop ?_)
  | (with_reducible refine r_make ?_)
  | (with_reducible refine r_gcons ?_)
  | (with_reducible refine r_gnil ?_)
  | (with_reducible refine r_rfl ?_)
  | (with_reducible refine r_for ?_)
  | (with_reducible refine r_rng1 ?_)
  | (with_reducible refine r_int1 ?_)
  | (with_reducible refine r_abs ?_)
  | (with_reducible refine r_tup ?_)
  | (with_reducible refine r_lst ?_))
local macro_rules | `(tactic| walk_at "ri") => `(tactic| repeat (walk_at "ri1"))

abbrev C_Doubled (K : Frg) : Addr := He.ga K "Doubled"
abbrev C_Unreadable (K : Frg) : Addr := He.ga K "Unreadable"
abbrev C_AlikeError (K : Frg) : Addr := He.ga K "AlikeError"
abbrev C_Unwritable (K : Frg) : Addr := He.ga K "Unwritable"
abbrev C_Counted (K : Frg) : Addr := He.ga K "Counted"
abbrev C_Numeral (K : Frg) : Addr := He.ga K "Numeral"
abbrev C_Utf8 (K : Frg) : Addr := He.ga K "Utf8"
abbrev C_BencodeNumber (K : Frg) : Addr := He.ga K "BencodeNumber"
abbrev C_BencodeKey (K : Frg) : Addr := He.ga K "BencodeKey"
abbrev C_Nest (K : Frg) : Addr := He.ga K "Nest"
abbrev C_BencodeScanner (K : Frg) : Addr := He.ga K "BencodeScanner"
abbrev C_Frame (K : Frg) : Addr := He.ga K "Frame"
abbrev C_Builder (K : Frg) : Addr := He.ga K "Builder"
structure Nm (K : Frg) (mg : Str → Option Value) : Prop where
  tuple : mg "tuple" = none
  sorted : mg "sorted" = none
  len : mg "len" = none
  abs : mg "abs" = none
  range : mg "range" = none
  int : mg "int" = none
  isinstance : mg "isinstance" = none
  list : mg "list" = none
  bool : mg "bool" = none
  str : mg "str" = none
  max : mg "max" = none
  ord : mg "ord" = none
  g_PIECE : ∃ u, mg "PIECE" = some u ∧ RelV (.int 10000000000000000000000000000000000000000000000000000000000000000) u
  g_PIECE_DIGITS : ∃ u, mg "PIECE_DIGITS" = some u ∧ RelV (.int 64) u
  g_ZERO_counted : ∃ u, mg "ZERO_counted" = some u ∧ RelV (.int 48) u
  g_NINE : ∃ u, mg "NINE" = some u ∧ RelV (.int 57) u
  g_COLON : ∃ u, mg "COLON" = some u ∧ RelV (.int 58) u
  g_FIRSTS : ∃ v u, mg "FIRSTS" = some u ∧ RelV v u ∧ ∀ H, Dp K H v (.tuple [.tuple [.int 194, .int 223, .int 1, .int 128, .int 191], .tuple [.int 224, .int 224, .int 2, .int 160, .int 191], .tuple [.int 225, .int 236, .int 2, .int 128, .int 191], .tuple [.int 237, .int 237, .int 2, .int 128, .int 159], .tuple [.int 238, .int 239, .int 2, .int 128, .int 191], .tuple [.int 240, .int 240, .int 3, .int 144, .int 191], .tuple [.int 241, .int 243, .int 3, .int 128, .int 191], .tuple [.int 244, .int 244, .int 3, .int 128, .int 143]])
  g_MARKS : ∃ v u, mg "MARKS" = some u ∧ RelV v u ∧ ∀ H, Dp K H v (.tuple [.int 0, .int 192, .int 224, .int 240])
  g_SMALL_E : ∃ u, mg "SMALL_E" = some u ∧ RelV (.int 101) u
  g_MINUS : ∃ u, mg "MINUS" = some u ∧ RelV (.int 45) u
  g_LARGEST_EXPONENT : ∃ u, mg "LARGEST_EXPONENT" = some u ∧ RelV (.int 800) u
  g_ZERO_marks : ∃ u, mg "ZERO_marks" = some u ∧ RelV (.int 48) u
  g_DEEPEST : ∃ u, mg "DEEPEST" = some u ∧ RelV (.int 24) u
  g_SMALL_L : ∃ u, mg "SMALL_L" = some u ∧ RelV (.int 108) u
  g_SMALL_D : ∃ u, mg "SMALL_D" = some u ∧ RelV (.int 100) u
  g_SMALL_I : ∃ u, mg "SMALL_I" = some u ∧ RelV (.int 105) u
  g_Doubled : mg "Doubled" = some (.ref (C_Doubled K))
  x_Doubled : ExcK K (C_Doubled K) (meAd "AlikeError" "__init__" K) "what"
  g_Unreadable : mg "Unreadable" = some (.ref (C_Unreadable K))
  x_Unreadable : ExcK K (C_Unreadable K) (meAd "AlikeError" "__init__" K) "what"
  g_AlikeError : mg "AlikeError" = some (.ref (C_AlikeError K))
  x_AlikeError : ExcK K (C_AlikeError K) (meAd "AlikeError" "__init__" K) "what"
  g_Unwritable : mg "Unwritable" = some (.ref (C_Unwritable K))
  x_Unwritable : ExcK K (C_Unwritable K) (meAd "AlikeError" "__init__" K) "what"
  y_Unreadable : IsxC K (C_Unreadable K)
  e_Unreadable_AlikeError : PySem.W.exmOne K (.ref (C_Unreadable K)) (.ref (C_AlikeError K)) = some true
  i_Unreadable_Unwritable : PySem.W.kitOne K (.ref (C_Unreadable K)) (.ref (C_Unwritable K)) = some false
  i_Unreadable_Doubled : PySem.W.kitOne K (.ref (C_Unreadable K)) (.ref (C_Doubled K)) = some false
  i_Unreadable_Unreadable : PySem.W.kitOne K (.ref (C_Unreadable K)) (.ref (C_Unreadable K)) = some true
  cl_Counted : Cls K (C_Counted K)
  g_Counted : mg "Counted" = some (.ref (C_Counted K))
  mk_Counted : Mk K (C_Counted K) (meAd "Counted" "__init__" K)
  na_Counted_is_done : NoAttr K (C_Counted K) "is_done"
  na_Counted_can_end : NoAttr K (C_Counted K) "can_end"
  na_Counted_has_begun : NoAttr K (C_Counted K) "has_begun"
  na_Counted_octets : NoAttr K (C_Counted K) "octets"
  na_Counted__missing : NoAttr K (C_Counted K) "_missing"
  me_Counted_take : Meth K (C_Counted K) "take" (meAd "Counted" "take" K)
  me_Counted__take_in_count : Meth K (C_Counted K) "_take_in_count" (meAd "Counted" "_take_in_count" K)
  me_Counted_leaf : Meth K (C_Counted K) "leaf" (meAd "Counted" "leaf" K)
  cl_Numeral : Cls K (C_Numeral K)
  g_Numeral : mg "Numeral" = some (.ref (C_Numeral K))
  mk_Numeral : Mk K (C_Numeral K) (meAd "Numeral" "__init__" K)
  na_Numeral__sign : NoAttr K (C_Numeral K) "_sign"
  na_Numeral__worth : NoAttr K (C_Numeral K) "_worth"
  na_Numeral__scale : NoAttr K (C_Numeral K) "_scale"
  na_Numeral__exponent_sign : NoAttr K (C_Numeral K) "_exponent_sign"
  na_Numeral__exponent : NoAttr K (C_Numeral K) "_exponent"
  me_Numeral_negate : Meth K (C_Numeral K) "negate" (meAd "Numeral" "negate" K)
  me_Numeral_negate_exponent : Meth K (C_Numeral K) "negate_exponent" (meAd "Numeral" "negate_exponent" K)
  me_Numeral_add_digit : Meth K (C_Numeral K) "add_digit" (meAd "Numeral" "add_digit" K)
  me_Numeral_add_fraction_digit : Meth K (C_Numeral K) "add_fraction_digit" (meAd "Numeral" "add_fraction_digit" K)
  me_Numeral_add_exponent_digit : Meth K (C_Numeral K) "add_exponent_digit" (meAd "Numeral" "add_exponent_digit" K)
  me_Numeral_pair : Meth K (C_Numeral K) "pair" (meAd "Numeral" "pair" K)
  cl_Utf8 : Cls K (C_Utf8 K)
  g_Utf8 : mg "Utf8" = some (.ref (C_Utf8 K))
  mk_Utf8 : Mk K (C_Utf8 K) (meAd "Utf8" "__init__" K)
  na_Utf8_points : NoAttr K (C_Utf8 K) "points"
  na_Utf8__missing : NoAttr K (C_Utf8 K) "_missing"
  na_Utf8__worth : NoAttr K (C_Utf8 K) "_worth"
  na_Utf8__least : NoAttr K (C_Utf8 K) "_least"
  na_Utf8__most : NoAttr K (C_Utf8 K) "_most"
  pr_Utf8_is_open : PropOf K (C_Utf8 K) "is_open" (He.ma K (C_Utf8 K) "is_open") (prAd "Utf8" "is_open" K)
  me_Utf8_take : Meth K (C_Utf8 K) "take" (meAd "Utf8" "take" K)
  me_Utf8__begin : Meth K (C_Utf8 K) "_begin" (meAd "Utf8" "_begin" K)
  me_Utf8__go_on : Meth K (C_Utf8 K) "_go_on" (meAd "Utf8" "_go_on" K)
  cl_BencodeNumber : Cls K (C_BencodeNumber K)
  g_BencodeNumber : mg "BencodeNumber" = some (.ref (C_BencodeNumber K))
  mk_BencodeNumber : Mk K (C_BencodeNumber K) (meAd "BencodeNumber" "__init__" K)
  na_BencodeNumber_is_done : NoAttr K (C_BencodeNumber K) "is_done"
  na_BencodeNumber__numeral : NoAttr K (C_BencodeNumber K) "_numeral"
  na_BencodeNumber__state : NoAttr K (C_BencodeNumber K) "_state"
  me_BencodeNumber_take : Meth K (C_BencodeNumber K) "take" (meAd "BencodeNumber" "take" K)
  me_BencodeNumber__take_minus : Meth K (C_BencodeNumber K) "_take_minus" (meAd "BencodeNumber" "_take_minus" K)
  me_BencodeNumber__take_digit : Meth K (C_BencodeNumber K) "_take_digit" (meAd "BencodeNumber" "_take_digit" K)
  me_BencodeNumber_leaf : Meth K (C_BencodeNumber K) "leaf" (meAd "BencodeNumber" "leaf" K)
  cl_BencodeKey : Cls K (C_BencodeKey K)
  g_BencodeKey : mg "BencodeKey" = some (.ref (C_BencodeKey K))
  mk_BencodeKey : Mk K (C_BencodeKey K) (meAd "BencodeKey" "__init__" K)
  na_BencodeKey_is_done : NoAttr K (C_BencodeKey K) "is_done"
  na_BencodeKey__counted : NoAttr K (C_BencodeKey K) "_counted"
  na_BencodeKey__utf8 : NoAttr K (C_BencodeKey K) "_utf8"
  me_BencodeKey_take : Meth K (C_BencodeKey K) "take" (meAd "BencodeKey" "take" K)
  me_BencodeKey_leaf : Meth K (C_BencodeKey K) "leaf" (meAd "BencodeKey" "leaf" K)
  cl_Nest : Cls K (C_Nest K)
  g_Nest : mg "Nest" = some (.ref (C_Nest K))
  mk_Nest : Mk K (C_Nest K) (meAd "Nest" "__init__" K)
  na_Nest__levels : NoAttr K (C_Nest K) "_levels"
  me_Nest_inner : Meth K (C_Nest K) "inner" (meAd "Nest" "inner" K)
  me_Nest_grow : Meth K (C_Nest K) "grow" (meAd "Nest" "grow" K)
  me_Nest_shrink : Meth K (C_Nest K) "shrink" (meAd "Nest" "shrink" K)
  me_Nest_note_key : Meth K (C_Nest K) "note_key" (meAd "Nest" "note_key" K)
  cl_BencodeScanner : Cls K (C_BencodeScanner K)
  g_BencodeScanner : mg "BencodeScanner" = some (.ref (C_BencodeScanner K))
  mk_BencodeScanner : Mk K (C_BencodeScanner K) (meAd "BencodeScanner" "__init__" K)
  na_BencodeScanner__place : NoAttr K (C_BencodeScanner K) "_place"
  na_BencodeScanner__wanted : NoAttr K (C_BencodeScanner K) "_wanted"
  na_BencodeScanner__nest : NoAttr K (C_BencodeScanner K) "_nest"
  na_BencodeScanner__token : NoAttr K (C_BencodeScanner K) "_token"
  me_BencodeScanner_step : Meth K (C_BencodeScanner K) "step" (meAd "BencodeScanner" "step" K)
  me_BencodeScanner_end : Meth K (C_BencodeScanner K) "end" (meAd "BencodeScanner" "end" K)
  me_BencodeScanner__take : Meth K (C_BencodeScanner K) "_take" (meAd "BencodeScanner" "_take" K)
  me_BencodeScanner__end_token : Meth K (C_BencodeScanner K) "_end_token" (meAd "BencodeScanner" "_end_token" K)
  me_BencodeScanner__end_value : Meth K (C_BencodeScanner K) "_end_value" (meAd "BencodeScanner" "_end_value" K)
  me_BencodeScanner__take_mark : Meth K (C_BencodeScanner K) "_take_mark" (meAd "BencodeScanner" "_take_mark" K)
  me_BencodeScanner__begin_counted : Meth K (C_BencodeScanner K) "_begin_counted" (meAd "BencodeScanner" "_begin_counted" K)
  me_BencodeScanner__grow : Meth K (C_BencodeScanner K) "_grow" (meAd "BencodeScanner" "_grow" K)
  me_BencodeScanner__close : Meth K (C_BencodeScanner K) "_close" (meAd "BencodeScanner" "_close" K)
  cl_Frame : Cls K (C_Frame K)
  g_Frame : mg "Frame" = some (.ref (C_Frame K))
  mk_Frame : Mk K (C_Frame K) (meAd "Frame" "__init__" K)
  na_Frame_kind : NoAttr K (C_Frame K) "kind"
  na_Frame_key : NoAttr K (C_Frame K) "key"
  na_Frame_inside : NoAttr K (C_Frame K) "inside"
  me_Frame_put : Meth K (C_Frame K) "put" (meAd "Frame" "put" K)
  me_Frame_built : Meth K (C_Frame K) "built" (meAd "Frame" "built" K)
  cl_Builder : Cls K (C_Builder K)
  g_Builder : mg "Builder" = some (.ref (C_Builder K))
  mk_Builder : Mk K (C_Builder K) (meAd "Builder" "__init__" K)
  na_Builder_is_done : NoAttr K (C_Builder K) "is_done"
  na_Builder_value : NoAttr K (C_Builder K) "value"
  na_Builder__frames : NoAttr K (C_Builder K) "_frames"
  me_Builder_take : Meth K (C_Builder K) "take" (meAd "Builder" "take" K)
  me_Builder__put : Meth K (C_Builder K) "_put" (meAd "Builder" "_put" K)
  dig : DigK K
def fs_Counted (x0 x1 x2 x3 x4 : V) : List (Str × V) := [("is_done", x0), ("can_end", x1), ("has_begun", x2), ("octets", x3), ("_missing", x4)]
theorem lk_Counted_is_done {x0 x1 x2 x3 x4 : V} : (fs_Counted x0 x1 x2 x3 x4).lookup ("is_done" : Str) = some x0 := by
  unfold fs_Counted
  rw [lk_hit]
theorem pt_Counted_is_done {x0 x1 x2 x3 x4 y : V} : putF "is_done" y (fs_Counted x0 x1 x2 x3 x4) = fs_Counted y x1 x2 x3 x4 := by
  unfold fs_Counted
  rw [pf_hit]
theorem in_Counted_is_done {x0 : V} : putF "is_done" x0 ([] : List (Str × V)) = ([("is_done", x0)] : List (Str × V)) := by
  rw [pf_nil]
theorem lk_Counted_can_end {x0 x1 x2 x3 x4 : V} : (fs_Counted x0 x1 x2 x3 x4).lookup ("can_end" : Str) = some x1 := by
  unfold fs_Counted
  rw [lk_miss (by decide +kernel), lk_hit]
theorem pt_Counted_can_end {x0 x1 x2 x3 x4 y : V} : putF "can_end" y (fs_Counted x0 x1 x2 x3 x4) = fs_Counted x0 y x2 x3 x4 := by
  unfold fs_Counted
  rw [pf_miss (by decide +kernel), pf_hit]
theorem in_Counted_can_end {x0 x1 : V} : putF "can_end" x1 ([("is_done", x0)] : List (Str × V)) = ([("is_done", x0), ("can_end", x1)] : List (Str × V)) := by
  rw [pf_miss (by decide +kernel), pf_nil]
theorem lk_Counted_has_begun {x0 x1 x2 x3 x4 : V} : (fs_Counted x0 x1 x2 x3 x4).lookup ("has_begun" : Str) = some x2 := by
  unfold fs_Counted
  rw [lk_miss (by decide +kernel), lk_miss (by decide +kernel), lk_hit]
theorem pt_Counted_has_begun {x0 x1 x2 x3 x4 y : V} : putF "has_begun" y (fs_Counted x0 x1 x2 x3 x4) = fs_Counted x0 x1 y x3 x4 := by
  unfold fs_Counted
  rw [pf_miss (by decide +kernel), pf_miss (by decide +kernel), pf_hit]
theorem in_Counted_has_begun {x0 x1 x2 : V} : putF "has_begun" x2 ([("is_done", x0), ("can_end", x1)] : List (Str × V)) = ([("is_done", x0), ("can_end", x1), ("has_begun", x2)] : List (Str × V)) := by
  rw [pf_miss (by decide +kernel), pf_miss (by decide +kernel), pf_nil]
theorem lk_Counted_octets {x0 x1 x2 x3 x4 : V} : (fs_Counted x0 x1 x2 x3 x4).lookup ("octets" : Str) = some x3 := by
  unfold fs_Counted
  rw [lk_miss (by decide +kernel), lk_miss (by decide +kernel), lk_miss (by decide +kernel), lk_hit]
theorem pt_Counted_octets {x0 x1 x2 x3 x4 y : V} : putF "octets" y (fs_Counted x0 x1 x2 x3 x4) = fs_Counted x0 x1 x2 y x4 := by
  unfold fs_Counted
  rw [pf_miss (by decide +kernel), pf_miss (by decide +kernel), pf_miss (by decide +kernel), pf_hit]
theorem in_Counted_octets {x0 x1 x2 x3 : V} : putF "octets" x3 ([("is_done", x0), ("can_end", x1), ("has_begun", x2)] : List (Str × V)) = ([("is_done", x0), ("can_end", x1), ("has_begun", x2), ("octets", x3)] : List (Str × V)) := by
  rw [pf_miss (by decide +kernel), pf_miss (by decide +kernel), pf_miss (by decide +kernel), pf_nil]
theorem lk_Counted__missing {x0 x1 x2 x3 x4 : V} : (fs_Counted x0 x1 x2 x3 x4).lookup ("_missing" : Str) = some x4 := by
  unfold fs_Counted
  rw [lk_miss (by decide +kernel), lk_miss (by decide +kernel), lk_miss (by decide +kernel), lk_miss (by decide +kernel), lk_hit]
theorem pt_Counted__missing {x0 x1 x2 x3 x4 y : V} : putF "_missing" y (fs_Counted x0 x1 x2 x3 x4) = fs_Counted x0 x1 x2 x3 y := by
  unfold fs_Counted
  rw [pf_miss (by decide +kernel), pf_miss (by decide +kernel), pf_miss (by decide +kernel), pf_miss (by decide +kernel), pf_hit]
theorem in_Counted__missing {x0 x1 x2 x3 x4 : V} : putF "_missing" x4 ([("is_done", x0), ("can_end", x1), ("has_begun", x2), ("octets", x3)] : List (Str × V)) = ([("is_done", x0), ("can_end", x1), ("has_begun", x2), ("octets", x3), ("_missing", x4)] : List (Str × V)) := by
  rw [pf_miss (by decide +kernel), pf_miss (by decide +kernel), pf_miss (by decide +kernel), pf_miss (by decide +kernel), pf_nil]
theorem no_Counted_take {x0 x1 x2 x3 x4 : V} : (fs_Counted x0 x1 x2 x3 x4).lookup ("take" : Str) = none := by
  unfold fs_Counted
  rw [lk_miss (by decide +kernel), lk_miss (by decide +kernel), lk_miss (by decide +kernel), lk_miss (by decide +kernel), lk_miss (by decide +kernel)] <;> rfl
theorem no_Counted__take_in_count {x0 x1 x2 x3 x4 : V} : (fs_Counted x0 x1 x2 x3 x4).lookup ("_take_in_count" : Str) = none := by
  unfold fs_Counted
  rw [lk_miss (by decide +kernel), lk_miss (by decide +kernel), lk_miss (by decide +kernel), lk_miss (by decide +kernel), lk_miss (by decide +kernel)] <;> rfl
theorem no_Counted_leaf {x0 x1 x2 x3 x4 : V} : (fs_Counted x0 x1 x2 x3 x4).lookup ("leaf" : Str) = none := by
  unfold fs_Counted
  rw [lk_miss (by decide +kernel), lk_miss (by decide +kernel), lk_miss (by decide +kernel), lk_miss (by decide +kernel), lk_miss (by decide +kernel)] <;> rfl
theorem few_Counted {x0 x1 x2 x3 x4 : V} : (fs_Counted x0 x1 x2 x3 x4).length < 1000 := by
  show 5 < 1000
  decide
def fs_Numeral (x0 x1 x2 x3 x4 : V) : List (Str × V) := [("_sign", x0), ("_worth", x1), ("_scale", x2), ("_exponent_sign", x3), ("_exponent", x4)]
theorem lk_Numeral__sign {x0 x1 x2 x3 x4 : V} : (fs_Numeral x0 x1 x2 x3 x4).lookup ("_sign" : Str) = some x0 := by
  unfold fs_Numeral
  rw [lk_hit]
theorem pt_Numeral__sign {x0 x1 x2 x3 x4 y : V} : putF "_sign" y (fs_Numeral x0 x1 x2 x3 x4) = fs_Numeral y x1 x2 x3 x4 := by
  unfold fs_Numeral
  rw [pf_hit]
theorem in_Numeral__sign {x0 : V} : putF "_sign" x0 ([] : List (Str × V)) = ([("_sign", x0)] : List (Str × V)) := by
  rw [pf_nil]
theorem lk_Numeral__worth {x0 x1 x2 x3 x4 : V} : (fs_Numeral x0 x1 x2 x3 x4).lookup ("_worth" : Str) = some x1 := by
  unfold fs_Numeral
  rw [lk_miss (by decide +kernel), lk_hit]
theorem pt_Numeral__worth {x0 x1 x2 x3 x4 y : V} : putF "_worth" y (fs_Numeral x0 x1 x2 x3 x4) = fs_Numeral x0 y x2 x3 x4 := by
  unfold fs_Numeral
  rw [pf_miss (by decide +kernel), pf_hit]
theorem in_Numeral__worth {x0 x1 : V} : putF "_worth" x1 ([("_sign", x0)] : List (Str × V)) = ([("_sign", x0), ("_worth", x1)] : List (Str × V)) := by
  rw [pf_miss (by decide +kernel), pf_nil]
theorem lk_Numeral__scale {x0 x1 x2 x3 x4 : V} : (fs_Numeral x0 x1 x2 x3 x4).lookup ("_scale" : Str) = some x2 := by
  unfold fs_Numeral
  rw [lk_miss (by decide +kernel), lk_miss (by decide +kernel), lk_hit]
theorem pt_Numeral__scale {x0 x1 x2 x3 x4 y : V} : putF "_scale" y (fs_Numeral x0 x1 x2 x3 x4) = fs_Numeral x0 x1 y x3 x4 := by
  unfold fs_Numeral
  rw [pf_miss (by decide +kernel), pf_miss (by decide +kernel), pf_hit]
theorem in_Numeral__scale {x0 x1 x2 : V} : putF "_scale" x2 ([("_sign", x0), ("_worth", x1)] : List (Str × V)) = ([("_sign", x0), ("_worth", x1), ("_scale", x2)] : List (Str × V)) := by
  rw [pf_miss (by decide +kernel), pf_miss (by decide +kernel), pf_nil]
theorem lk_Numeral__exponent_sign {x0 x1 x2 x3 x4 : V} : (fs_Numeral x0 x1 x2 x3 x4).lookup ("_exponent_sign" : Str) = some x3 := by
  unfold fs_Numeral
  rw [lk_miss (by decide +kernel), lk_miss (by decide +kernel), lk_miss (by decide +kernel), lk_hit]
theorem pt_Numeral__exponent_sign {x0 x1 x2 x3 x4 y : V} : putF "_exponent_sign" y (fs_Numeral x0 x1 x2 x3 x4) = fs_Numeral x0 x1 x2 y x4 := by
  unfold fs_Numeral
  rw [pf_miss (by decide +kernel), pf_miss (by decide +kernel), pf_miss (by decide +kernel), pf_hit]
theorem in_Numeral__exponent_sign {x0 x1 x2 x3 : V} : putF "_exponent_sign" x3 ([("_sign", x0), ("_worth", x1), ("_scale", x2)] : List (Str × V)) = ([("_sign", x0), ("_worth", x1), ("_scale", x2), ("_exponent_sign", x3)] : List (Str × V)) := by
  rw [pf_miss (by decide +kernel), pf_miss (by decide +kernel), pf_miss (by decide +kernel), pf_nil]
theorem lk_Numeral__exponent {x0 x1 x2 x3 x4 : V} : (fs_Numeral x0 x1 x2 x3 x4).lookup ("_exponent" : Str) = some x4 := by
  unfold fs_Numeral
  rw [lk_miss (by decide +kernel), lk_miss (by decide +kernel), lk_miss (by decide +kernel), lk_miss (by decide +kernel), lk_hit]
theorem pt_Numeral__exponent {x0 x1 x2 x3 x4 y : V} : putF "_exponent" y (fs_Numeral x0 x1 x2 x3 x4) = fs_Numeral x0 x1 x2 x3 y := by
  unfold fs_Numeral
  rw [pf_miss (by decide +kernel), pf_miss (by decide +kernel), pf_miss (by decide +kernel), pf_miss (by decide +kernel), pf_hit]
theorem in_Numeral__exponent {x0 x1 x2 x3 x4 : V} : putF "_exponent" x4 ([("_sign", x0), ("_worth", x1), ("_scale", x2), ("_exponent_sign", x3)] : List (Str × V)) = ([("_sign", x0), ("_worth", x1), ("_scale", x2), ("_exponent_sign", x3), ("_exponent", x4)] : List (Str × V)) := by
  rw [pf_miss (by decide +kernel), pf_miss (by decide +kernel), pf_miss (by decide +kernel), pf_miss (by decide +kernel), pf_nil]
theorem no_Numeral_negate {x0 x1 x2 x3 x4 : V} : (fs_Numeral x0 x1 x2 x3 x4).lookup ("negate" : Str) = none := by
  unfold fs_Numeral
  rw [lk_miss (by decide +kernel), lk_miss (by decide +kernel), lk_miss (by decide +kernel), lk_miss (by decide +kernel), lk_miss (by decide +kernel)] <;> rfl
theorem no_Numeral_negate_exponent {x0 x1 x2 x3 x4 : V} : (fs_Numeral x0 x1 x2 x3 x4).lookup ("negate_exponent" : Str) = none := by
  unfold fs_Numeral
  rw [lk_miss (by decide +kernel), lk_miss (by decide +kernel), lk_miss (by decide +kernel), lk_miss (by decide +kernel), lk_miss (by decide +kernel)] <;> rfl
theorem no_Numeral_add_digit {x0 x1 x2 x3 x4 : V} : (fs_Numeral x0 x1 x2 x3 x4).lookup ("add_digit" : Str) = none := by
  unfold fs_Numeral
  rw [lk_miss (by decide +kernel), lk_miss (by decide +kernel), lk_miss (by decide +kernel), lk_miss (by decide +kernel), lk_miss (by decide +kernel)] <;> rfl
theorem no_Numeral_add_fraction_digit {x0 x1 x2 x3 x4 : V} : (fs_Numeral x0 x1 x2 x3 x4).lookup ("add_fraction_digit" : Str) = none := by
  unfold fs_Numeral
  rw [lk_miss (by decide +kernel), lk_miss (by decide +kernel), lk_miss (by decide +kernel), lk_miss (by decide +kernel), lk_miss (by decide +kernel)] <;> rfl
theorem no_Numeral_add_exponent_digit {x0 x1 x2 x3 x4 : V} : (fs_Numeral x0 x1 x2 x3 x4).lookup ("add_exponent_digit" : Str) = none := by
  unfold fs_Numeral
  rw [lk_miss (by decide +kernel), lk_miss (by decide +kernel), lk_miss (by decide +kernel), lk_miss (by decide +kernel), lk_miss (by decide +kernel)] <;> rfl
theorem no_Numeral_pair {x0 x1 x2 x3 x4 : V} : (fs_Numeral x0 x1 x2 x3 x4).lookup ("pair" : Str) = none := by
  unfold fs_Numeral
  rw [lk_miss (by decide +kernel), lk_miss (by decide +kernel), lk_miss (by decide +kernel), lk_miss (by decide +kernel), lk_miss (by decide +kernel)] <;> rfl
theorem few_Numeral {x0 x1 x2 x3 x4 : V} : (fs_Numeral x0 x1 x2 x3 x4).length < 1000 := by
  show 5 < 1000
  decide
def fs_Utf8 (x0 x1 x2 x3 x4 : V) : List (Str × V) := [("points", x0), ("_missing", x1), ("_worth", x2), ("_least", x3), ("_most", x4)]
theorem lk_Utf8_points {x0 x1 x2 x3 x4 : V} : (fs_Utf8 x0 x1 x2 x3 x4).lookup ("points" : Str) = some x0 := by
  unfold fs_Utf8
  rw [lk_hit]
theorem pt_Utf8_points {x0 x1 x2 x3 x4 y : V} : putF "points" y (fs_Utf8 x0 x1 x2 x3 x4) = fs_Utf8 y x1 x2 x3 x4 := by
  unfold fs_Utf8
  rw [pf_hit]
theorem in_Utf8_points {x0 : V} : putF "points" x0 ([] : List (Str × V)) = ([("points", x0)] : List (Str × V)) := by
  rw [pf_nil]
theorem lk_Utf8__missing {x0 x1 x2 x3 x4 : V} : (fs_Utf8 x0 x1 x2 x3 x4).lookup ("_missing" : Str) = some x1 := by
  unfold fs_Utf8
  rw [lk_miss (by decide +kernel), lk_hit]
theorem pt_Utf8__missing {x0 x1 x2 x3 x4 y : V} : putF "_missing" y (fs_Utf8 x0 x1 x2 x3 x4) = fs_Utf8 x0 y x2 x3 x4 := by
  unfold fs_Utf8
  rw [pf_miss (by decide +kernel), pf_hit]
theorem in_Utf8__missing {x0 x1 : V} : putF "_missing" x1 ([("points", x0)] : List (Str × V)) = ([("points", x0), ("_missing", x1)] : List (Str × V)) := by
  rw [pf_miss (by decide +kernel), pf_nil]
theorem lk_Utf8__worth {x0 x1 x2 x3 x4 : V} : (fs_Utf8 x0 x1 x2 x3 x4).lookup ("_worth" : Str) = some x2 := by
  unfold fs_Utf8
  rw [lk_miss (by decide +kernel), lk_miss (by decide +kernel), lk_hit]
theorem pt_Utf8__worth {x0 x1 x2 x3 x4 y : V} : putF "_worth" y (fs_Utf8 x0 x1 x2 x3 x4) = fs_Utf8 x0 x1 y x3 x4 := by
  unfold fs_Utf8
  rw [pf_miss (by decide +kernel), pf_miss (by decide +kernel), pf_hit]
theorem in_Utf8__worth {x0 x1 x2 : V} : putF "_worth" x2 ([("points", x0), ("_missing", x1)] : List (Str × V)) = ([("points", x0), ("_missing", x1), ("_worth", x2)] : List (Str × V)) := by
  rw [pf_miss (by decide +kernel), pf_miss (by decide +kernel), pf_nil]
theorem lk_Utf8__least {x0 x1 x2 x3 x4 : V} : (fs_Utf8 x0 x1 x2 x3 x4).lookup ("_least" : Str) = some x3 := by
  unfold fs_Utf8
  rw [lk_miss (by decide +kernel), lk_miss (by decide +kernel), lk_miss (by decide +kernel), lk_hit]
theorem pt_Utf8__least {x0 x1 x2 x3 x4 y : V} : putF "_least" y (fs_Utf8 x0 x1 x2 x3 x4) = fs_Utf8 x0 x1 x2 y x4 := by
  unfold fs_Utf8
  rw [pf_miss (by decide +kernel), pf_miss (by decide +kernel), pf_miss (by decide +kernel), pf_hit]
theorem in_Utf8__least {x0 x1 x2 x3 : V} : putF "_least" x3 ([("points", x0), ("_missing", x1), ("_worth", x2)] : List (Str × V)) = ([("points", x0), ("_missing", x1), ("_worth", x2), ("_least", x3)] : List (Str × V)) := by
  rw [pf_miss (by decide +kernel), pf_miss (by decide +kernel), pf_miss (by decide +kernel), pf_nil]
theorem lk_Utf8__most {x0 x1 x2 x3 x4 : V} : (fs_Utf8 x0 x1 x2 x3 x4).lookup ("_most" : Str) = some x4 := by
  unfold fs_Utf8
  rw [lk_miss (by decide +kernel), lk_miss (by decide +kernel), lk_miss (by decide +kernel), lk_miss (by decide +kernel), lk_hit]
theorem pt_Utf8__most {x0 x1 x2 x3 x4 y : V} : putF "_most" y (fs_Utf8 x0 x1 x2 x3 x4) = fs_Utf8 x0 x1 x2 x3 y := by
  unfold fs_Utf8
  rw [pf_miss (by decide +kernel), pf_miss (by decide +kernel), pf_miss (by decide +kernel), pf_miss (by decide +kernel), pf_hit]
theorem in_Utf8__most {x0 x1 x2 x3 x4 : V} : putF "_most" x4 ([("points", x0), ("_missing", x1), ("_worth", x2), ("_least", x3)] : List (Str × V)) = ([("points", x0), ("_missing", x1), ("_worth", x2), ("_least", x3), ("_most", x4)] : List (Str × V)) := by
  rw [pf_miss (by decide +kernel), pf_miss (by decide +kernel), pf_miss (by decide +kernel), pf_miss (by decide +kernel), pf_nil]
theorem no_Utf8_take {x0 x1 x2 x3 x4 : V} : (fs_Utf8 x0 x1 x2 x3 x4).lookup ("take" : Str) = none := by
  unfold fs_Utf8
  rw [lk_miss (by decide +kernel), lk_miss (by decide +kernel), lk_miss (by decide +kernel), lk_miss (by decide +kernel), lk_miss (by decide +kernel)] <;> rfl
theorem no_Utf8__begin {x0 x1 x2 x3 x4 : V} : (fs_Utf8 x0 x1 x2 x3 x4).lookup ("_begin" : Str) = none := by
  unfold fs_Utf8
  rw [lk_miss (by decide +kernel), lk_miss (by decide +kernel), lk_miss (by decide +kernel), lk_miss (by decide +kernel), lk_miss (by decide +kernel)] <;> rfl
theorem no_Utf8__go_on {x0 x1 x2 x3 x4 : V} : (fs_Utf8 x0 x1 x2 x3 x4).lookup ("_go_on" : Str) = none := by
  unfold fs_Utf8
  rw [lk_miss (by decide +kernel), lk_miss (by decide +kernel), lk_miss (by decide +kernel), lk_miss (by decide +kernel), lk_miss (by decide +kernel)] <;> rfl
theorem few_Utf8 {x0 x1 x2 x3 x4 : V} : (fs_Utf8 x0 x1 x2 x3 x4).length < 1000 := by
  show 5 < 1000
  decide
def fs_BencodeNumber (x0 x1 x2 : V) : List (Str × V) := [("is_done", x0), ("_numeral", x1), ("_state", x2)]
theorem lk_BencodeNumber_is_done {x0 x1 x2 : V} : (fs_BencodeNumber x0 x1 x2).lookup ("is_done" : Str) = some x0 := by
  unfold fs_BencodeNumber
  rw [lk_hit]
theorem pt_BencodeNumber_is_done {x0 x1 x2 y : V} : putF "is_done" y (fs_BencodeNumber x0 x1 x2) = fs_BencodeNumber y x1 x2 := by
  unfold fs_BencodeNumber
  rw [pf_hit]
theorem in_BencodeNumber_is_done {x0 : V} : putF "is_done" x0 ([] : List (Str × V)) = ([("is_done", x0)] : List (Str × V)) := by
  rw [pf_nil]
theorem lk_BencodeNumber__numeral {x0 x1 x2 : V} : (fs_BencodeNumber x0 x1 x2).lookup ("_numeral" : Str) = some x1 := by
  unfold fs_BencodeNumber
  rw [lk_miss (by decide +kernel), lk_hit]
theorem pt_BencodeNumber__numeral {x0 x1 x2 y : V} : putF "_numeral" y (fs_BencodeNumber x0 x1 x2) = fs_BencodeNumber x0 y x2 := by
  unfold fs_BencodeNumber
  rw [pf_miss (by decide +kernel), pf_hit]
theorem in_BencodeNumber__numeral {x0 x1 : V} : putF "_numeral" x1 ([("is_done", x0)] : List (Str × V)) = ([("is_done", x0), ("_numeral", x1)] : List (Str × V)) := by
  rw [pf_miss (by decide +kernel), pf_nil]
theorem lk_BencodeNumber__state {x0 x1 x2 : V} : (fs_BencodeNumber x0 x1 x2).lookup ("_state" : Str) = some x2 := by
  unfold fs_BencodeNumber
  rw [lk_miss (by decide +kernel), lk_miss (by decide +kernel), lk_hit]
theorem pt_BencodeNumber__state {x0 x1 x2 y : V} : putF "_state" y (fs_BencodeNumber x0 x1 x2) = fs_BencodeNumber x0 x1 y := by
  unfold fs_BencodeNumber
  rw [pf_miss (by decide +kernel), pf_miss (by decide +kernel), pf_hit]
theorem in_BencodeNumber__state {x0 x1 x2 : V} : putF "_state" x2 ([("is_done", x0), ("_numeral", x1)] : List (Str × V)) = ([("is_done", x0), ("_numeral", x1), ("_state", x2)] : List (Str × V)) := by
  rw [pf_miss (by decide +kernel), pf_miss (by decide +kernel), pf_nil]
theorem no_BencodeNumber_take {x0 x1 x2 : V} : (fs_BencodeNumber x0 x1 x2).lookup ("take" : Str) = none := by
  unfold fs_BencodeNumber
  rw [lk_miss (by decide +kernel), lk_miss (by decide +kernel), lk_miss (by decide +kernel)] <;> rfl
theorem no_BencodeNumber__take_minus {x0 x1 x2 : V} : (fs_BencodeNumber x0 x1 x2).lookup ("_take_minus" : Str) = none := by
  unfold fs_BencodeNumber
  rw [lk_miss (by decide +kernel), lk_miss (by decide +kernel), lk_miss (by decide +kernel)] <;> rfl
theorem no_BencodeNumber__take_digit {x0 x1 x2 : V} : (fs_BencodeNumber x0 x1 x2).lookup ("_take_digit" : Str) = none := by
  unfold fs_BencodeNumber
  rw [lk_miss (by decide +kernel), lk_miss (by decide +kernel), lk_miss (by decide +kernel)] <;> rfl
theorem no_BencodeNumber_leaf {x0 x1 x2 : V} : (fs_BencodeNumber x0 x1 x2).lookup ("leaf" : Str) = none := by
  unfold fs_BencodeNumber
  rw [lk_miss (by decide +kernel), lk_miss (by decide +kernel), lk_miss (by decide +kernel)] <;> rfl
theorem few_BencodeNumber {x0 x1 x2 : V} : (fs_BencodeNumber x0 x1 x2).length < 1000 := by
  show 3 < 1000
  decide
def fs_BencodeKey (x0 x1 x2 : V) : List (Str × V) := [("is_done", x0), ("_counted", x1), ("_utf8", x2)]
theorem lk_BencodeKey_is_done {x0 x1 x2 : V} : (fs_BencodeKey x0 x1 x2).lookup ("is_done" : Str) = some x0 := by
  unfold fs_BencodeKey
  rw [lk_hit]
theorem pt_BencodeKey_is_done {x0 x1 x2 y : V} : putF "is_done" y (fs_BencodeKey x0 x1 x2) = fs_BencodeKey y x1 x2 := by
  unfold fs_BencodeKey
  rw [pf_hit]
theorem in_BencodeKey_is_done {x0 : V} : putF "is_done" x0 ([] : List (Str × V)) = ([("is_done", x0)] : List (Str × V)) := by
  rw [pf_nil]
theorem lk_BencodeKey__counted {x0 x1 x2 : V} : (fs_BencodeKey x0 x1 x2).lookup ("_counted" : Str) = some x1 := by
  unfold fs_BencodeKey
  rw [lk_miss (by decide +kernel), lk_hit]
theorem pt_BencodeKey__counted {x0 x1 x2 y : V} : putF "_counted" y (fs_BencodeKey x0 x1 x2) = fs_BencodeKey x0 y x2 := by
  unfold fs_BencodeKey
  rw [pf_miss (by decide +kernel), pf_hit]
theorem in_BencodeKey__counted {x0 x1 : V} : putF "_counted" x1 ([("is_done", x0)] : List (Str × V)) = ([("is_done", x0), ("_counted", x1)] : List (Str × V)) := by
  rw [pf_miss (by decide +kernel), pf_nil]
theorem lk_BencodeKey__utf8 {x0 x1 x2 : V} : (fs_BencodeKey x0 x1 x2).lookup ("_utf8" : Str) = some x2 := by
  unfold fs_BencodeKey
  rw [lk_miss (by decide +kernel), lk_miss (by decide +kernel), lk_hit]
theorem pt_BencodeKey__utf8 {x0 x1 x2 y : V} : putF "_utf8" y (fs_BencodeKey x0 x1 x2) = fs_BencodeKey x0 x1 y := by
  unfold fs_BencodeKey
  rw [pf_miss (by decide +kernel), pf_miss (by decide +kernel), pf_hit]
theorem in_BencodeKey__utf8 {x0 x1 x2 : V} : putF "_utf8" x2 ([("is_done", x0), ("_counted", x1)] : List (Str × V)) = ([("is_done", x0), ("_counted", x1), ("_utf8", x2)] : List (Str × V)) := by
  rw [pf_miss (by decide +kernel), pf_miss (by decide +kernel), pf_nil]
theorem no_BencodeKey_take {x0 x1 x2 : V} : (fs_BencodeKey x0 x1 x2).lookup ("take" : Str) = none := by
  unfold fs_BencodeKey
  rw [lk_miss (by decide +kernel), lk_miss (by decide +kernel), lk_miss (by decide +kernel)] <;> rfl
theorem no_BencodeKey_leaf {x0 x1 x2 : V} : (fs_BencodeKey x0 x1 x2).lookup ("leaf" : Str) = none := by
  unfold fs_BencodeKey
  rw [lk_miss (by decide +kernel), lk_miss (by decide +kernel), lk_miss (by decide +kernel)] <;> rfl
theorem few_BencodeKey {x0 x1 x2 : V} : (fs_BencodeKey x0 x1 x2).length < 1000 := by
  show 3 < 1000
  decide
def fs_Nest (x0 : V) : List (Str × V) := [("_levels", x0)]
theorem lk_Nest__levels {x0 : V} : (fs_Nest x0).lookup ("_levels" : Str) = some x0 := by
  unfold fs_Nest
  rw [lk_hit]
theorem pt_Nest__levels {x0 y : V} : putF "_levels" y (fs_Nest x0) = fs_Nest y := by
  unfold fs_Nest
  rw [pf_hit]
theorem in_Nest__levels {x0 : V} : putF "_levels" x0 ([] : List (Str × V)) = ([("_levels", x0)] : List (Str × V)) := by
  rw [pf_nil]
theorem no_Nest_inner {x0 : V} : (fs_Nest x0).lookup ("inner" : Str) = none := by
  unfold fs_Nest
  rw [lk_miss (by decide +kernel)] <;> rfl
theorem no_Nest_grow {x0 : V} : (fs_Nest x0).lookup ("grow" : Str) = none := by
  unfold fs_Nest
  rw [lk_miss (by decide +kernel)] <;> rfl
theorem no_Nest_shrink {x0 : V} : (fs_Nest x0).lookup ("shrink" : Str) = none := by
  unfold fs_Nest
  rw [lk_miss (by decide +kernel)] <;> rfl
theorem no_Nest_note_key {x0 : V} : (fs_Nest x0).lookup ("note_key" : Str) = none := by
  unfold fs_Nest
  rw [lk_miss (by decide +kernel)] <;> rfl
theorem few_Nest {x0 : V} : (fs_Nest x0).length < 1000 := by
  show 1 < 1000
  decide
def fs_BencodeScanner (x0 x1 x2 x3 : V) : List (Str × V) := [("_place", x0), ("_wanted", x1), ("_nest", x2), ("_token", x3)]
theorem lk_BencodeScanner__place {x0 x1 x2 x3 : V} : (fs_BencodeScanner x0 x1 x2 x3).lookup ("_place" : Str) = some x0 := by
  unfold fs_BencodeScanner
  rw [lk_hit]
theorem pt_BencodeScanner__place {x0 x1 x2 x3 y : V} : putF "_place" y (fs_BencodeScanner x0 x1 x2 x3) = fs_BencodeScanner y x1 x2 x3 := by
  unfold fs_BencodeScanner
  rw [pf_hit]
theorem in_BencodeScanner__place {x0 : V} : putF "_place" x0 ([] : List (Str × V)) = ([("_place", x0)] : List (Str × V)) := by
  rw [pf_nil]
theorem lk_BencodeScanner__wanted {x0 x1 x2 x3 : V} : (fs_BencodeScanner x0 x1 x2 x3).lookup ("_wanted" : Str) = some x1 := by
  unfold fs_BencodeScanner
  rw [lk_miss (by decide +kernel), lk_hit]
theorem pt_BencodeScanner__wanted {x0 x1 x2 x3 y : V} : putF "_wanted" y (fs_BencodeScanner x0 x1 x2 x3) = fs_BencodeScanner x0 y x2 x3 := by
  unfold fs_BencodeScanner
  rw [pf_miss (by decide +kernel), pf_hit]
theorem in_BencodeScanner__wanted {x0 x1 : V} : putF "_wanted" x1 ([("_place", x0)] : List (Str × V)) = ([("_place", x0), ("_wanted", x1)] : List (Str × V)) := by
  rw [pf_miss (by decide +kernel), pf_nil]
theorem lk_BencodeScanner__nest {x0 x1 x2 x3 : V} : (fs_BencodeScanner x0 x1 x2 x3).lookup ("_nest" : Str) = some x2 := by
  unfold fs_BencodeScanner
  rw [lk_miss (by decide +kernel), lk_miss (by decide +kernel), lk_hit]
theorem pt_BencodeScanner__nest {x0 x1 x2 x3 y : V} : putF "_nest" y (fs_BencodeScanner x0 x1 x2 x3) = fs_BencodeScanner x0 x1 y x3 := by
  unfold fs_BencodeScanner
  rw [pf_miss (by decide +kernel), pf_miss (by decide +kernel), pf_hit]
theorem in_BencodeScanner__nest {x0 x1 x2 : V} : putF "_nest" x2 ([("_place", x0), ("_wanted", x1)] : List (Str × V)) = ([("_place", x0), ("_wanted", x1), ("_nest", x2)] : List (Str × V)) := by
  rw [pf_miss (by decide +kernel), pf_miss (by decide +kernel), pf_nil]
theorem lk_BencodeScanner__token {x0 x1 x2 x3 : V} : (fs_BencodeScanner x0 x1 x2 x3).lookup ("_token" : Str) = some x3 := by
  unfold fs_BencodeScanner
  rw [lk_miss (by decide +kernel), lk_miss (by decide +kernel), lk_miss (by decide +kernel), lk_hit]
theorem pt_BencodeScanner__token {x0 x1 x2 x3 y : V} : putF "_token" y (fs_BencodeScanner x0 x1 x2 x3) = fs_BencodeScanner x0 x1 x2 y := by
  unfold fs_BencodeScanner
  rw [pf_miss (by decide +kernel), pf_miss (by decide +kernel), pf_miss (by decide +kernel), pf_hit]
theorem in_BencodeScanner__token {x0 x1 x2 x3 : V} : putF "_token" x3 ([("_place", x0), ("_wanted", x1), ("_nest", x2)] : List (Str × V)) = ([("_place", x0), ("_wanted", x1), ("_nest", x2), ("_token", x3)] : List (Str × V)) := by
  rw [pf_miss (by decide +kernel), pf_miss (by decide +kernel), pf_miss (by decide +kernel), pf_nil]
theorem no_BencodeScanner_step {x0 x1 x2 x3 : V} : (fs_BencodeScanner x0 x1 x2 x3).lookup ("step" : Str) = none := by
  unfold fs_BencodeScanner
  rw [lk_miss (by decide +kernel), lk_miss (by decide +kernel), lk_miss (by decide +kernel), lk_miss (by decide +kernel)] <;> rfl
theorem no_BencodeScanner_end {x0 x1 x2 x3 : V} : (fs_BencodeScanner x0 x1 x2 x3).lookup ("end" : Str) = none := by
  unfold fs_BencodeScanner
  rw [lk_miss (by decide +kernel), lk_miss (by decide +kernel), lk_miss (by decide +kernel), lk_miss (by decide +kernel)] <;> rfl
theorem no_BencodeScanner__take {x0 x1 x2 x3 : V} : (fs_BencodeScanner x0 x1 x2 x3).lookup ("_take" : Str) = none := by
  unfold fs_BencodeScanner
  rw [lk_miss (by decide +kernel), lk_miss (by decide +kernel), lk_miss (by decide +kernel), lk_miss (by decide +kernel)] <;> rfl
theorem no_BencodeScanner__end_token {x0 x1 x2 x3 : V} : (fs_BencodeScanner x0 x1 x2 x3).lookup ("_end_token" : Str) = none := by
  unfold fs_BencodeScanner
  rw [lk_miss (by decide +kernel), lk_miss (by decide +kernel), lk_miss (by decide +kernel), lk_miss (by decide +kernel)] <;> rfl
theorem no_BencodeScanner__end_value {x0 x1 x2 x3 : V} : (fs_BencodeScanner x0 x1 x2 x3).lookup ("_end_value" : Str) = none := by
  unfold fs_BencodeScanner
  rw [lk_miss (by decide +kernel), lk_miss (by decide +kernel), lk_miss (by decide +kernel), lk_miss (by decide +kernel)] <;> rfl
theorem no_BencodeScanner__take_mark {x0 x1 x2 x3 : V} : (fs_BencodeScanner x0 x1 x2 x3).lookup ("_take_mark" : Str) = none := by
  unfold fs_BencodeScanner
  rw [lk_miss (by decide +kernel), lk_miss (by decide +kernel), lk_miss (by decide +kernel), lk_miss (by decide +kernel)] <;> rfl
theorem no_BencodeScanner__begin_counted {x0 x1 x2 x3 : V} : (fs_BencodeScanner x0 x1 x2 x3).lookup ("_begin_counted" : Str) = none := by
  unfold fs_BencodeScanner
  rw [lk_miss (by decide +kernel), lk_miss (by decide +kernel), lk_miss (by decide +kernel), lk_miss (by decide +kernel)] <;> rfl
theorem no_BencodeScanner__grow {x0 x1 x2 x3 : V} : (fs_BencodeScanner x0 x1 x2 x3).lookup ("_grow" : Str) = none := by
  unfold fs_BencodeScanner
  rw [lk_miss (by decide +kernel), lk_miss (by decide +kernel), lk_miss (by decide +kernel), lk_miss (by decide +kernel)] <;> rfl
theorem no_BencodeScanner__close {x0 x1 x2 x3 : V} : (fs_BencodeScanner x0 x1 x2 x3).lookup ("_close" : Str) = none := by
  unfold fs_BencodeScanner
  rw [lk_miss (by decide +kernel), lk_miss (by decide +kernel), lk_miss (by decide +kernel), lk_miss (by decide +kernel)] <;> rfl
theorem few_BencodeScanner {x0 x1 x2 x3 : V} : (fs_BencodeScanner x0 x1 x2 x3).length < 1000 := by
  show 4 < 1000
  decide
def fs_Frame (x0 x1 x2 : V) : List (Str × V) := [("kind", x0), ("key", x1), ("inside", x2)]
theorem lk_Frame_kind {x0 x1 x2 : V} : (fs_Frame x0 x1 x2).lookup ("kind" : Str) = some x0 := by
  unfold fs_Frame
  rw [lk_hit]
theorem pt_Frame_kind {x0 x1 x2 y : V} : putF "kind" y (fs_Frame x0 x1 x2) = fs_Frame y x1 x2 := by
  unfold fs_Frame
  rw [pf_hit]
theorem in_Frame_kind {x0 : V} : putF "kind" x0 ([] : List (Str × V)) = ([("kind", x0)] : List (Str × V)) := by
  rw [pf_nil]
theorem lk_Frame_key {x0 x1 x2 : V} : (fs_Frame x0 x1 x2).lookup ("key" : Str) = some x1 := by
  unfold fs_Frame
  rw [lk_miss (by decide +kernel), lk_hit]
theorem pt_Frame_key {x0 x1 x2 y : V} : putF "key" y (fs_Frame x0 x1 x2) = fs_Frame x0 y x2 := by
  unfold fs_Frame
  rw [pf_miss (by decide +kernel), pf_hit]
theorem in_Frame_key {x0 x1 : V} : putF "key" x1 ([("kind", x0)] : List (Str × V)) = ([("kind", x0), ("key", x1)] : List (Str × V)) := by
  rw [pf_miss (by decide +kernel), pf_nil]
theorem lk_Frame_inside {x0 x1 x2 : V} : (fs_Frame x0 x1 x2).lookup ("inside" : Str) = some x2 := by
  unfold fs_Frame
  rw [lk_miss (by decide +kernel), lk_miss (by decide +kernel), lk_hit]
theorem pt_Frame_inside {x0 x1 x2 y : V} : putF "inside" y (fs_Frame x0 x1 x2) = fs_Frame x0 x1 y := by
  unfold fs_Frame
  rw [pf_miss (by decide +kernel), pf_miss (by decide +kernel), pf_hit]
theorem in_Frame_inside {x0 x1 x2 : V} : putF "inside" x2 ([("kind", x0), ("key", x1)] : List (Str × V)) = ([("kind", x0), ("key", x1), ("inside", x2)] : List (Str × V)) := by
  rw [pf_miss (by decide +kernel), pf_miss (by decide +kernel), pf_nil]
theorem no_Frame_put {x0 x1 x2 : V} : (fs_Frame x0 x1 x2).lookup ("put" : Str) = none := by
  unfold fs_Frame
  rw [lk_miss (by decide +kernel), lk_miss (by decide +kernel), lk_miss (by decide +kernel)] <;> rfl
theorem no_Frame_built {x0 x1 x2 : V} : (fs_Frame x0 x1 x2).lookup ("built" : Str) = none := by
  unfold fs_Frame
  rw [lk_miss (by decide +kernel), lk_miss (by decide +kernel), lk_miss (by decide +kernel)] <;> rfl
theorem few_Frame {x0 x1 x2 : V} : (fs_Frame x0 x1 x2).length < 1000 := by
  show 3 < 1000
  decide
def fs_Builder (x0 x1 x2 : V) : List (Str × V) := [("is_done", x0), ("value", x1), ("_frames", x2)]
theorem lk_Builder_is_done {x0 x1 x2 : V} : (fs_Builder x0 x1 x2).lookup ("is_done" : Str) = some x0 := by
  unfold fs_Builder
  rw [lk_hit]
theorem pt_Builder_is_done {x0 x1 x2 y : V} : putF "is_done" y (fs_Builder x0 x1 x2) = fs_Builder y x1 x2 := by
  unfold fs_Builder
  rw [pf_hit]
theorem in_Builder_is_done {x0 : V} : putF "is_done" x0 ([] : List (Str × V)) = ([("is_done", x0)] : List (Str × V)) := by
  rw [pf_nil]
theorem lk_Builder_value {x0 x1 x2 : V} : (fs_Builder x0 x1 x2).lookup ("value" : Str) = some x1 := by
  unfold fs_Builder
  rw [lk_miss (by decide +kernel), lk_hit]
theorem pt_Builder_value {x0 x1 x2 y : V} : putF "value" y (fs_Builder x0 x1 x2) = fs_Builder x0 y x2 := by
  unfold fs_Builder
  rw [pf_miss (by decide +kernel), pf_hit]
theorem in_Builder_value {x0 x1 : V} : putF "value" x1 ([("is_done", x0)] : List (Str × V)) = ([("is_done", x0), ("value", x1)] : List (Str × V)) := by
  rw [pf_miss (by decide +kernel), pf_nil]
theorem lk_Builder__frames {x0 x1 x2 : V} : (fs_Builder x0 x1 x2).lookup ("_frames" : Str) = some x2 := by
  unfold fs_Builder
  rw [lk_miss (by decide +kernel), lk_miss (by decide +kernel), lk_hit]
theorem pt_Builder__frames {x0 x1 x2 y : V} : putF "_frames" y (fs_Builder x0 x1 x2) = fs_Builder x0 x1 y := by
  unfold fs_Builder
  rw [pf_miss (by decide +kernel), pf_miss (by decide +kernel), pf_hit]
theorem in_Builder__frames {x0 x1 x2 : V} : putF "_frames" x2 ([("is_done", x0), ("value", x1)] : List (Str × V)) = ([("is_done", x0), ("value", x1), ("_frames", x2)] : List (Str × V)) := by
  rw [pf_miss (by decide +kernel), pf_miss (by decide +kernel), pf_nil]
theorem no_Builder_take {x0 x1 x2 : V} : (fs_Builder x0 x1 x2).lookup ("take" : Str) = none := by
  unfold fs_Builder
  rw [lk_miss (by decide +kernel), lk_miss (by decide +kernel), lk_miss (by decide +kernel)] <;> rfl
theorem no_Builder__put {x0 x1 x2 : V} : (fs_Builder x0 x1 x2).lookup ("_put" : Str) = none := by
  unfold fs_Builder
  rw [lk_miss (by decide +kernel), lk_miss (by decide +kernel), lk_miss (by decide +kernel)] <;> rfl
theorem few_Builder {x0 x1 x2 : V} : (fs_Builder x0 x1 x2).length < 1000 := by
  show 3 < 1000
  decide

abbrev s__law_cell : Stmt := (top 49)
theorem sc__law_cell : FnScope ["script", "k"] ["script", "k"] (defScope s__law_cell) := ⟨rfl, rfl, rfl, by decide +kernel, rfl, by decide +kernel, by decide +kernel⟩
abbrev s__law_numbers : Stmt := (top 50)
theorem sc__law_numbers : FnScope ["cell", "many", "rest", "size", "numbers", "k", "mixed"] ["cell", "many"] (defScope s__law_numbers) := ⟨rfl, rfl, rfl, by decide +kernel, rfl, by decide +kernel, by decide +kernel⟩
abbrev s__law_state : Stmt := (top 51)
theorem sc__law_state : FnScope ["script", "left", "numbers", "k", "parted"] ["script", "left"] (defScope s__law_state) := ⟨rfl, rfl, rfl, by decide +kernel, rfl, by decide +kernel, by decide +kernel⟩
abbrev s__law_next : Stmt := (top 52)
theorem sc__law_next : FnScope ["state", "many", "at"] ["state", "many"] (defScope s__law_next) := ⟨rfl, rfl, rfl, by decide +kernel, rfl, by decide +kernel, by decide +kernel⟩
abbrev s__law_many : Stmt := (top 53)
theorem sc__law_many : FnScope ["state", "most"] ["state", "most"] (defScope s__law_many) := ⟨rfl, rfl, rfl, by decide +kernel, rfl, by decide +kernel, by decide +kernel⟩
abbrev s__law_points : Stmt := (top 57)
theorem sc__law_points : FnScope ["state", "menu", "points", "k", "pick", "point"] ["state"] (defScope s__law_points) := ⟨rfl, rfl, rfl, by decide +kernel, rfl, by decide +kernel, by decide +kernel⟩
abbrev s__law_big : Stmt := (top 54)
theorem sc__law_big : FnScope ["state", "many", "cell"] ["state", "many"] (defScope s__law_big) := ⟨rfl, rfl, rfl, by decide +kernel, rfl, by decide +kernel, by decide +kernel⟩
abbrev s__law_normal : Stmt := (top 55)
theorem sc__law_normal : FnScope ["m", "e", "k"] ["m", "e"] (defScope s__law_normal) := ⟨rfl, rfl, rfl, by decide +kernel, rfl, by decide +kernel, by decide +kernel⟩
abbrev s__law_number : Stmt := (top 56)
theorem sc__law_number : FnScope ["state", "is_far", "pick", "sign", "m", "e", "edge", "power", "k"] ["state", "is_far"] (defScope s__law_number) := ⟨rfl, rfl, rfl, by decide +kernel, rfl, by decide +kernel, by decide +kernel⟩
abbrev s__law_octets : Stmt := (top 58)
theorem sc__law_octets : FnScope ["state", "many", "low", "span", "k"] ["state"] (defScope s__law_octets) := ⟨rfl, rfl, rfl, by decide +kernel, rfl, by decide +kernel, by decide +kernel⟩
abbrev s__law_leaf : Stmt := (top 59)
theorem sc__law_leaf : FnScope ["state", "kinds", "kind"] ["state", "kinds"] (defScope s__law_leaf) := ⟨rfl, rfl, rfl, by decide +kernel, rfl, by decide +kernel, by decide +kernel⟩
abbrev s__law_value : Stmt := (top 60)
theorem sc__law_value : FnScope ["state", "deep", "kinds", "has_maps", "pick", "many", "k", "entries", "key", "entry"] ["state", "deep", "kinds", "has_maps"] (defScope s__law_value) := ⟨rfl, rfl, rfl, by decide +kernel, rfl, by decide +kernel, by decide +kernel⟩
abbrev s__law_tall : Stmt := (top 61)
theorem sc__law_tall : FnScope ["state", "value", "has_maps", "k"] ["state", "value", "has_maps"] (defScope s__law_tall) := ⟨rfl, rfl, rfl, by decide +kernel, rfl, by decide +kernel, by decide +kernel⟩
abbrev s__law_mixed : Stmt := (top 62)
theorem sc__law_mixed : FnScope ["state", "entries", "found", "entry"] ["state", "entries"] (defScope s__law_mixed) := ⟨rfl, rfl, rfl, by decide +kernel, rfl, by decide +kernel, by decide +kernel⟩
abbrev s__law_ascii : Stmt := (top 63)
theorem sc__law_ascii : FnScope ["text", "char"] ["text"] (defScope s__law_ascii) := ⟨rfl, rfl, rfl, by decide +kernel, rfl, by decide +kernel, by decide +kernel⟩
abbrev s__law_count_planted : Stmt := (top 66)
theorem sc__law_count_planted : FnScope ["state", "count"] ["state", "count"] (defScope s__law_count_planted) := ⟨rfl, rfl, rfl, by decide +kernel, rfl, by decide +kernel, by decide +kernel⟩
abbrev s__law_leaf_planted : Stmt := (top 67)
theorem sc__law_leaf_planted : FnScope ["state", "value", "text"] ["state", "value"] (defScope s__law_leaf_planted) := ⟨rfl, rfl, rfl, by decide +kernel, rfl, by decide +kernel, by decide +kernel⟩
abbrev s__law_utf8 : Stmt := (top 64)
theorem sc__law_utf8 : FnScope ["points", "octets", "point"] ["points"] (defScope s__law_utf8) := ⟨rfl, rfl, rfl, by decide +kernel, rfl, by decide +kernel, by decide +kernel⟩
abbrev s__law_key_planted : Stmt := (top 68)
theorem sc__law_key_planted : FnScope ["state", "key", "octets", "pick", "at"] ["state", "key"] (defScope s__law_key_planted) := ⟨rfl, rfl, rfl, by decide +kernel, rfl, by decide +kernel, by decide +kernel⟩
abbrev s__law_planted : Stmt := (top 69)
theorem sc__law_planted : FnScope ["state", "value", "found", "item", "key"] ["state", "value"] (defScope s__law_planted) := ⟨rfl, rfl, rfl, by decide +kernel, rfl, by decide +kernel, by decide +kernel⟩
abbrev s__law_spoilt : Stmt := (top 78)
theorem sc__law_spoilt : FnScope ["state", "octets", "odd", "k", "at", "octet", "pick"] ["state", "octets", "odd"] (defScope s__law_spoilt) := ⟨rfl, rfl, rfl, by decide +kernel, rfl, by decide +kernel, by decide +kernel⟩
abbrev s__law_same : Stmt := (top 65)
theorem sc__law_same : FnScope ["told", "due", "k"] ["told", "due"] (defScope s__law_same) := ⟨rfl, rfl, rfl, by decide +kernel, rfl, by decide +kernel, by decide +kernel⟩
abbrev s__law_count : Stmt := (top 71)
theorem sc__law_count : FnScope ["octets", "at", "digits", "k", "count", "digit"] ["octets", "at"] (defScope s__law_count) := ⟨rfl, rfl, rfl, by decide +kernel, rfl, by decide +kernel, by decide +kernel⟩
abbrev s__law_counted : Stmt := (top 72)
theorem sc__law_counted : FnScope ["octets", "at", "is_good", "count", "place", "row"] ["octets", "at"] (defScope s__law_counted) := ⟨rfl, rfl, rfl, by decide +kernel, rfl, by decide +kernel, by decide +kernel⟩
abbrev s__law_integer_read : Stmt := (top 73)
theorem sc__law_integer_read : FnScope ["octets", "at", "is_minus", "start", "is_good", "count", "place", "m", "e"] ["octets", "at"] (defScope s__law_integer_read) := ⟨rfl, rfl, rfl, by decide +kernel, rfl, by decide +kernel, by decide +kernel⟩
abbrev s__law_decode : Stmt := (top 70)
theorem sc__law_decode : FnScope ["octets", "points", "point", "left", "low", "high", "k", "octet"] ["octets"] (defScope s__law_decode) := ⟨rfl, rfl, rfl, by decide +kernel, rfl, by decide +kernel, by decide +kernel⟩
abbrev s__law_key_read : Stmt := (top 74)
theorem sc__law_key_read : FnScope ["octets", "at", "keys", "is_good", "row", "place", "points", "fault", "is_open"] ["octets", "at", "keys"] (defScope s__law_key_read) := ⟨rfl, rfl, rfl, by decide +kernel, rfl, by decide +kernel, by decide +kernel⟩
abbrev s__law_parts_read : Stmt := (top 76)
theorem sc__law_parts_read : FnScope ["octets", "at", "left", "is_map", "place", "keys", "items", "k", "is_good", "key", "item"] ["octets", "at", "left", "is_map"] (defScope s__law_parts_read) := ⟨rfl, rfl, rfl, by decide +kernel, rfl, by decide +kernel, by decide +kernel⟩
abbrev s__law_value_read : Stmt := (top 75)
theorem sc__law_value_read : FnScope ["octets", "at", "left", "first", "is_good", "row", "place"] ["octets", "at", "left"] (defScope s__law_value_read) := ⟨rfl, rfl, rfl, by decide +kernel, rfl, by decide +kernel, by decide +kernel⟩
abbrev s__law_text_read : Stmt := (top 77)
theorem sc__law_text_read : FnScope ["octets", "is_good", "value", "place"] ["octets"] (defScope s__law_text_read) := ⟨rfl, rfl, rfl, by decide +kernel, rfl, by decide +kernel, by decide +kernel⟩
abbrev s_AlikeError___init__ : Stmt := (inClass (top 28) 0)
theorem sc_AlikeError___init__ : FnScope ["self", "what"] ["self", "what"] (defScope s_AlikeError___init__) := ⟨rfl, rfl, rfl, by decide +kernel, rfl, by decide +kernel, by decide +kernel⟩
abbrev s_Nest___init__ : Stmt := (inClass (top 37) 0)
theorem sc_Nest___init__ : FnScope ["self"] ["self"] (defScope s_Nest___init__) := ⟨rfl, rfl, rfl, by decide +kernel, rfl, by decide +kernel, by decide +kernel⟩
abbrev s_BencodeScanner___init__ : Stmt := (inClass (top 39) 0)
theorem sc_BencodeScanner___init__ : FnScope ["self"] ["self"] (defScope s_BencodeScanner___init__) := ⟨rfl, rfl, rfl, by decide +kernel, rfl, by decide +kernel, by decide +kernel⟩
abbrev s_is_digit : Stmt := (top 16)
theorem sc_is_digit : FnScope ["octet"] ["octet"] (defScope s_is_digit) := ⟨rfl, rfl, rfl, by decide +kernel, rfl, by decide +kernel, by decide +kernel⟩
abbrev s_Counted__take_in_count : Stmt := (inClass (top 17) 2)
theorem sc_Counted__take_in_count : FnScope ["self", "octet"] ["self", "octet"] (defScope s_Counted__take_in_count) := ⟨rfl, rfl, rfl, by decide +kernel, rfl, by decide +kernel, by decide +kernel⟩
abbrev s_Counted_take : Stmt := (inClass (top 17) 1)
theorem sc_Counted_take : FnScope ["self", "octet"] ["self", "octet"] (defScope s_Counted_take) := ⟨rfl, rfl, rfl, by decide +kernel, rfl, by decide +kernel, by decide +kernel⟩
abbrev s_normal : Stmt := (top 11)
theorem sc_normal : FnScope ["m", "e"] ["m", "e"] (defScope s_normal) := ⟨rfl, rfl, rfl, by decide +kernel, rfl, by decide +kernel, by decide +kernel⟩
abbrev s_Numeral_pair : Stmt := (inClass (top 19) 6)
theorem sc_Numeral_pair : FnScope ["self"] ["self"] (defScope s_Numeral_pair) := ⟨rfl, rfl, rfl, by decide +kernel, rfl, by decide +kernel, by decide +kernel⟩
abbrev s_Numeral_negate : Stmt := (inClass (top 19) 1)
theorem sc_Numeral_negate : FnScope ["self"] ["self"] (defScope s_Numeral_negate) := ⟨rfl, rfl, rfl, by decide +kernel, rfl, by decide +kernel, by decide +kernel⟩
abbrev s_BencodeNumber__take_minus : Stmt := (inClass (top 25) 2)
theorem sc_BencodeNumber__take_minus : FnScope ["self"] ["self"] (defScope s_BencodeNumber__take_minus) := ⟨rfl, rfl, rfl, by decide +kernel, rfl, by decide +kernel, by decide +kernel⟩
abbrev s_Numeral_add_digit : Stmt := (inClass (top 19) 3)
theorem sc_Numeral_add_digit : FnScope ["self", "digit"] ["self", "digit"] (defScope s_Numeral_add_digit) := ⟨rfl, rfl, rfl, by decide +kernel, rfl, by decide +kernel, by decide +kernel⟩
abbrev s_BencodeNumber__take_digit : Stmt := (inClass (top 25) 3)
theorem sc_BencodeNumber__take_digit : FnScope ["self", "digit"] ["self", "digit"] (defScope s_BencodeNumber__take_digit) := ⟨rfl, rfl, rfl, by decide +kernel, rfl, by decide +kernel, by decide +kernel⟩
abbrev s_BencodeNumber_take : Stmt := (inClass (top 25) 1)
theorem sc_BencodeNumber_take : FnScope ["self", "octet"] ["self", "octet"] (defScope s_BencodeNumber_take) := ⟨rfl, rfl, rfl, by decide +kernel, rfl, by decide +kernel, by decide +kernel⟩
abbrev s_Utf8_is_open : Stmt := (inClass (top 23) 1)
theorem sc_Utf8_is_open : FnScope ["self"] ["self"] (defScope s_Utf8_is_open) := ⟨rfl, rfl, rfl, by decide +kernel, rfl, by decide +kernel, by decide +kernel⟩
abbrev s_Utf8__begin : Stmt := (inClass (top 23) 3)
theorem sc_Utf8__begin : FnScope ["self", "octet", "first", "last", "many", "least", "most"] ["self", "octet"] (defScope s_Utf8__begin) := ⟨rfl, rfl, rfl, by decide +kernel, rfl, by decide +kernel, by decide +kernel⟩
abbrev s_Utf8__go_on : Stmt := (inClass (top 23) 4)
theorem sc_Utf8__go_on : FnScope ["self", "octet"] ["self", "octet"] (defScope s_Utf8__go_on) := ⟨rfl, rfl, rfl, by decide +kernel, rfl, by decide +kernel, by decide +kernel⟩
abbrev s_Utf8_take : Stmt := (inClass (top 23) 2)
theorem sc_Utf8_take : FnScope ["self", "octet"] ["self", "octet"] (defScope s_Utf8_take) := ⟨rfl, rfl, rfl, by decide +kernel, rfl, by decide +kernel, by decide +kernel⟩
abbrev s_BencodeKey_take : Stmt := (inClass (top 26) 1)
theorem sc_BencodeKey_take : FnScope ["self", "octet", "is_inside"] ["self", "octet"] (defScope s_BencodeKey_take) := ⟨rfl, rfl, rfl, by decide +kernel, rfl, by decide +kernel, by decide +kernel⟩
abbrev s_Counted_leaf : Stmt := (inClass (top 17) 3)
theorem sc_Counted_leaf : FnScope ["self"] ["self"] (defScope s_Counted_leaf) := ⟨rfl, rfl, rfl, by decide +kernel, rfl, by decide +kernel, by decide +kernel⟩
abbrev s_BencodeNumber_leaf : Stmt := (inClass (top 25) 4)
theorem sc_BencodeNumber_leaf : FnScope ["self", "m", "e"] ["self"] (defScope s_BencodeNumber_leaf) := ⟨rfl, rfl, rfl, by decide +kernel, rfl, by decide +kernel, by decide +kernel⟩
abbrev s_BencodeKey_leaf : Stmt := (inClass (top 26) 2)
theorem sc_BencodeKey_leaf : FnScope ["self"] ["self"] (defScope s_BencodeKey_leaf) := ⟨rfl, rfl, rfl, by decide +kernel, rfl, by decide +kernel, by decide +kernel⟩
abbrev s_Nest_note_key : Stmt := (inClass (top 37) 4)
theorem sc_Nest_note_key : FnScope ["self", "key", "keys"] ["self", "key"] (defScope s_Nest_note_key) := ⟨rfl, rfl, rfl, by decide +kernel, rfl, by decide +kernel, by decide +kernel⟩
abbrev s_Nest_inner : Stmt := (inClass (top 37) 1)
theorem sc_Nest_inner : FnScope ["self"] ["self"] (defScope s_Nest_inner) := ⟨rfl, rfl, rfl, by decide +kernel, rfl, by decide +kernel, by decide +kernel⟩
abbrev s_BencodeScanner__end_value : Stmt := (inClass (top 39) 5)
theorem sc_BencodeScanner__end_value : FnScope ["self", "kind"] ["self"] (defScope s_BencodeScanner__end_value) := ⟨rfl, rfl, rfl, by decide +kernel, rfl, by decide +kernel, by decide +kernel⟩
abbrev s_BencodeScanner__end_token : Stmt := (inClass (top 39) 4)
theorem sc_BencodeScanner__end_token : FnScope ["self", "events", "leaf"] ["self", "events"] (defScope s_BencodeScanner__end_token) := ⟨rfl, rfl, rfl, by decide +kernel, rfl, by decide +kernel, by decide +kernel⟩
abbrev s_Counted___init__ : Stmt := (inClass (top 17) 0)
theorem sc_Counted___init__ : FnScope ["self"] ["self"] (defScope s_Counted___init__) := ⟨rfl, rfl, rfl, by decide +kernel, rfl, by decide +kernel, by decide +kernel⟩
abbrev s_Numeral___init__ : Stmt := (inClass (top 19) 0)
theorem sc_Numeral___init__ : FnScope ["self"] ["self"] (defScope s_Numeral___init__) := ⟨rfl, rfl, rfl, by decide +kernel, rfl, by decide +kernel, by decide +kernel⟩
abbrev s_BencodeNumber___init__ : Stmt := (inClass (top 25) 0)
theorem sc_BencodeNumber___init__ : FnScope ["self"] ["self"] (defScope s_BencodeNumber___init__) := ⟨rfl, rfl, rfl, by decide +kernel, rfl, by decide +kernel, by decide +kernel⟩
abbrev s_Utf8___init__ : Stmt := (inClass (top 23) 0)
theorem sc_Utf8___init__ : FnScope ["self"] ["self"] (defScope s_Utf8___init__) := ⟨rfl, rfl, rfl, by decide +kernel, rfl, by decide +kernel, by decide +kernel⟩
abbrev s_BencodeKey___init__ : Stmt := (inClass (top 26) 0)
theorem sc_BencodeKey___init__ : FnScope ["self"] ["self"] (defScope s_BencodeKey___init__) := ⟨rfl, rfl, rfl, by decide +kernel, rfl, by decide +kernel, by decide +kernel⟩
abbrev s_BencodeScanner__begin_counted : Stmt := (inClass (top 39) 7)
theorem sc_BencodeScanner__begin_counted : FnScope ["self", "token", "octet"] ["self", "token", "octet"] (defScope s_BencodeScanner__begin_counted) := ⟨rfl, rfl, rfl, by decide +kernel, rfl, by decide +kernel, by decide +kernel⟩
abbrev s_Nest_grow : Stmt := (inClass (top 37) 2)
theorem sc_Nest_grow : FnScope ["self", "kind"] ["self", "kind"] (defScope s_Nest_grow) := ⟨rfl, rfl, rfl, by decide +kernel, rfl, by decide +kernel, by decide +kernel⟩
abbrev s_BencodeScanner__grow : Stmt := (inClass (top 39) 8)
theorem sc_BencodeScanner__grow : FnScope ["self", "kind", "events"] ["self", "kind", "events"] (defScope s_BencodeScanner__grow) := ⟨rfl, rfl, rfl, by decide +kernel, rfl, by decide +kernel, by decide +kernel⟩
abbrev s_Nest_shrink : Stmt := (inClass (top 37) 3)
theorem sc_Nest_shrink : FnScope ["self"] ["self"] (defScope s_Nest_shrink) := ⟨rfl, rfl, rfl, by decide +kernel, rfl, by decide +kernel, by decide +kernel⟩
abbrev s_BencodeScanner__close : Stmt := (inClass (top 39) 9)
theorem sc_BencodeScanner__close : FnScope ["self", "events"] ["self", "events"] (defScope s_BencodeScanner__close) := ⟨rfl, rfl, rfl, by decide +kernel, rfl, by decide +kernel, by decide +kernel⟩
abbrev s_BencodeScanner__take_mark : Stmt := (inClass (top 39) 6)
theorem sc_BencodeScanner__take_mark : FnScope ["self", "octet", "events"] ["self", "octet", "events"] (defScope s_BencodeScanner__take_mark) := ⟨rfl, rfl, rfl, by decide +kernel, rfl, by decide +kernel, by decide +kernel⟩
abbrev s_BencodeScanner__take : Stmt := (inClass (top 39) 3)
theorem sc_BencodeScanner__take : FnScope ["self", "octet", "events"] ["self", "octet", "events"] (defScope s_BencodeScanner__take) := ⟨rfl, rfl, rfl, by decide +kernel, rfl, by decide +kernel, by decide +kernel⟩
abbrev s_BencodeScanner_step : Stmt := (inClass (top 39) 1)
theorem sc_BencodeScanner_step : FnScope ["self", "octet", "events"] ["self", "octet"] (defScope s_BencodeScanner_step) := ⟨rfl, rfl, rfl, by decide +kernel, rfl, by decide +kernel, by decide +kernel⟩
abbrev s_BencodeScanner_end : Stmt := (inClass (top 39) 2)
theorem sc_BencodeScanner_end : FnScope ["self"] ["self"] (defScope s_BencodeScanner_end) := ⟨rfl, rfl, rfl, by decide +kernel, rfl, by decide +kernel, by decide +kernel⟩
abbrev s_Builder___init__ : Stmt := (inClass (top 42) 0)
theorem sc_Builder___init__ : FnScope ["self"] ["self"] (defScope s_Builder___init__) := ⟨rfl, rfl, rfl, by decide +kernel, rfl, by decide +kernel, by decide +kernel⟩
abbrev s_Frame___init__ : Stmt := (inClass (top 41) 0)
theorem sc_Frame___init__ : FnScope ["self", "kind"] ["self", "kind"] (defScope s_Frame___init__) := ⟨rfl, rfl, rfl, by decide +kernel, rfl, by decide +kernel, by decide +kernel⟩
abbrev s_list_of : Stmt := (top 34)
theorem sc_list_of : FnScope ["items"] ["items"] (defScope s_list_of) := ⟨rfl, rfl, rfl, by decide +kernel, rfl, by decide +kernel, by decide +kernel⟩
abbrev s_map_of : Stmt := (top 35)
theorem sc_map_of : FnScope ["entries", "table", "points", "value", "key"] ["entries"] (defScope s_map_of) := ⟨rfl, rfl, rfl, by decide +kernel, rfl, by decide +kernel, by decide +kernel⟩
abbrev s_Frame_built : Stmt := (inClass (top 41) 2)
theorem sc_Frame_built : FnScope ["self"] ["self"] (defScope s_Frame_built) := ⟨rfl, rfl, rfl, by decide +kernel, rfl, by decide +kernel, by decide +kernel⟩
abbrev s_Frame_put : Stmt := (inClass (top 41) 1)
theorem sc_Frame_put : FnScope ["self", "value"] ["self", "value"] (defScope s_Frame_put) := ⟨rfl, rfl, rfl, by decide +kernel, rfl, by decide +kernel, by decide +kernel⟩
abbrev s_Builder__put : Stmt := (inClass (top 42) 2)
theorem sc_Builder__put : FnScope ["self", "value", "frame"] ["self", "value"] (defScope s_Builder__put) := ⟨rfl, rfl, rfl, by decide +kernel, rfl, by decide +kernel, by decide +kernel⟩
abbrev s_Builder_take : Stmt := (inClass (top 42) 1)
theorem sc_Builder_take : FnScope ["self", "event", "frame"] ["self", "event"] (defScope s_Builder_take) := ⟨rfl, rfl, rfl, by decide +kernel, rfl, by decide +kernel, by decide +kernel⟩
abbrev s__take_all : Stmt := (top 45)
theorem sc__take_all : FnScope ["builder", "events", "event"] ["builder", "events"] (defScope s__take_all) := ⟨rfl, rfl, rfl, by decide +kernel, rfl, by decide +kernel, by decide +kernel⟩
abbrev s_value_of_text : Stmt := (top 44)
theorem sc_value_of_text : FnScope ["scanner", "octets", "builder", "octet"] ["scanner", "octets"] (defScope s_value_of_text) := ⟨rfl, rfl, rfl, by decide +kernel, rfl, by decide +kernel, by decide +kernel⟩
abbrev s_read_bencode : Stmt := (top 47)
theorem sc_read_bencode : FnScope ["octets"] ["octets"] (defScope s_read_bencode) := ⟨rfl, rfl, rfl, by decide +kernel, rfl, by decide +kernel, by decide +kernel⟩
abbrev s__law_told : Stmt := (top 79)
theorem sc__law_told : FnScope ["octets", "e"] ["octets"] (defScope s__law_told) := ⟨rfl, rfl, rfl, by decide +kernel, rfl, by decide +kernel, by decide +kernel⟩
abbrev s__law_right : Stmt := (top 80)
theorem sc__law_right : FnScope ["octets", "is_good", "value", "place", "due", "passed"] ["octets"] (defScope s__law_right) := ⟨rfl, rfl, rfl, by decide +kernel, rfl, by decide +kernel, by decide +kernel⟩
abbrev s_law : Stmt := (top 81)
theorem sc_law : FnScope ["script", "state", "menu", "value", "octets", "k", "j"] ["script"] (defScope s_law) := ⟨rfl, rfl, rfl, by decide +kernel, rfl, by decide +kernel, by decide +kernel⟩
def d__law_cell : DefM := { ad := glAd "_law_cell", nm := "_law_cell", ql := "_law_cell", pa := defArgs s__law_cell, bo := defBody s__law_cell, sc := defScope s__law_cell }
def d__law_numbers : DefM := { ad := glAd "_law_numbers", nm := "_law_numbers", ql := "_law_numbers", pa := defArgs s__law_numbers, bo := defBody s__law_numbers, sc := defScope s__law_numbers }
def d__law_state : DefM := { ad := glAd "_law_state", nm := "_law_state", ql := "_law_state", pa := defArgs s__law_state, bo := defBody s__law_state, sc := defScope s__law_state }
def d__law_next : DefM := { ad := glAd "_law_next", nm := "_law_next", ql := "_law_next", pa := defArgs s__law_next, bo := defBody s__law_next, sc := defScope s__law_next }
def d__law_many : DefM := { ad := glAd "_law_many", nm := "_law_many", ql := "_law_many", pa := defArgs s__law_many, bo := defBody s__law_many, sc := defScope s__law_many }
def d__law_points : DefM := { ad := glAd "_law_points", nm := "_law_points", ql := "_law_points", pa := defArgs s__law_points, bo := defBody s__law_points, sc := defScope s__law_points }
def d__law_big : DefM := { ad := glAd "_law_big", nm := "_law_big", ql := "_law_big", pa := defArgs s__law_big, bo := defBody s__law_big, sc := defScope s__law_big }
def d__law_normal : DefM := { ad := glAd "_law_normal", nm := "_law_normal", ql := "_law_normal", pa := defArgs s__law_normal, bo := defBody s__law_normal, sc := defScope s__law_normal }
def d__law_number : DefM := { ad := glAd "_law_number", nm := "_law_number", ql := "_law_number", pa := defArgs s__law_number, bo := defBody s__law_number, sc := defScope s__law_number }
def d__law_octets : DefM := { ad := glAd "_law_octets", nm := "_law_octets", ql := "_law_octets", pa := defArgs s__law_octets, bo := defBody s__law_octets, sc := defScope s__law_octets }
def d__law_leaf : DefM := { ad := glAd "_law_leaf", nm := "_law_leaf", ql := "_law_leaf", pa := defArgs s__law_leaf, bo := defBody s__law_leaf, sc := defScope s__law_leaf }
def d__law_value : DefM := { ad := glAd "_law_value", nm := "_law_value", ql := "_law_value", pa := defArgs s__law_value, bo := defBody s__law_value, sc := defScope s__law_value }
def d__law_tall : DefM := { ad := glAd "_law_tall", nm := "_law_tall", ql := "_law_tall", pa := defArgs s__law_tall, bo := defBody s__law_tall, sc := defScope s__law_tall }
def d__law_mixed : DefM := { ad := glAd "_law_mixed", nm := "_law_mixed", ql := "_law_mixed", pa := defArgs s__law_mixed, bo := defBody s__law_mixed, sc := defScope s__law_mixed }
def d__law_ascii : DefM := { ad := glAd "_law_ascii", nm := "_law_ascii", ql := "_law_ascii", pa := defArgs s__law_ascii, bo := defBody s__law_ascii, sc := defScope s__law_ascii }
def d__law_count_planted : DefM := { ad := glAd "_law_count_planted", nm := "_law_count_planted", ql := "_law_count_planted", pa := defArgs s__law_count_planted, bo := defBody s__law_count_planted, sc := defScope s__law_count_planted }
def d__law_leaf_planted : DefM := { ad := glAd "_law_leaf_planted", nm := "_law_leaf_planted", ql := "_law_leaf_planted", pa := defArgs s__law_leaf_planted, bo := defBody s__law_leaf_planted, sc := defScope s__law_leaf_planted }
def d__law_utf8 : DefM := { ad := glAd "_law_utf8", nm := "_law_utf8", ql := "_law_utf8", pa := defArgs s__law_utf8, bo := defBody s__law_utf8, sc := defScope s__law_utf8 }
def d__law_key_planted : DefM := { ad := glAd "_law_key_planted", nm := "_law_key_planted", ql := "_law_key_planted", pa := defArgs s__law_key_planted, bo := defBody s__law_key_planted, sc := defScope s__law_key_planted }
def d__law_planted : DefM := { ad := glAd "_law_planted", nm := "_law_planted", ql := "_law_planted", pa := defArgs s__law_planted, bo := defBody s__law_planted, sc := defScope s__law_planted }
def d__law_spoilt : DefM := { ad := glAd "_law_spoilt", nm := "_law_spoilt", ql := "_law_spoilt", pa := defArgs s__law_spoilt, bo := defBody s__law_spoilt, sc := defScope s__law_spoilt }
def d__law_same : DefM := { ad := glAd "_law_same", nm := "_law_same", ql := "_law_same", pa := defArgs s__law_same, bo := defBody s__law_same, sc := defScope s__law_same }
def d__law_count : DefM := { ad := glAd "_law_count", nm := "_law_count", ql := "_law_count", pa := defArgs s__law_count, bo := defBody s__law_count, sc := defScope s__law_count }
def d__law_counted : DefM := { ad := glAd "_law_counted", nm := "_law_counted", ql := "_law_counted", pa := defArgs s__law_counted, bo := defBody s__law_counted, sc := defScope s__law_counted }
def d__law_integer_read : DefM := { ad := glAd "_law_integer_read", nm := "_law_integer_read", ql := "_law_integer_read", pa := defArgs s__law_integer_read, bo := defBody s__law_integer_read, sc := defScope s__law_integer_read }
def d__law_decode : DefM := { ad := glAd "_law_decode", nm := "_law_decode", ql := "_law_decode", pa := defArgs s__law_decode, bo := defBody s__law_decode, sc := defScope s__law_decode }
def d__law_key_read : DefM := { ad := glAd "_law_key_read", nm := "_law_key_read", ql := "_law_key_read", pa := defArgs s__law_key_read, bo := defBody s__law_key_read, sc := defScope s__law_key_read }
def d__law_parts_read : DefM := { ad := glAd "_law_parts_read", nm := "_law_parts_read", ql := "_law_parts_read", pa := defArgs s__law_parts_read, bo := defBody s__law_parts_read, sc := defScope s__law_parts_read }
def d__law_value_read : DefM := { ad := glAd "_law_value_read", nm := "_law_value_read", ql := "_law_value_read", pa := defArgs s__law_value_read, bo := defBody s__law_value_read, sc := defScope s__law_value_read }
def d__law_text_read : DefM := { ad := glAd "_law_text_read", nm := "_law_text_read", ql := "_law_text_read", pa := defArgs s__law_text_read, bo := defBody s__law_text_read, sc := defScope s__law_text_read }
def d_AlikeError___init__ : DefM := { ad := meAd "AlikeError" "__init__", nm := "__init__", ql := "AlikeError.__init__", pa := defArgs s_AlikeError___init__, bo := defBody s_AlikeError___init__, sc := defScope s_AlikeError___init__, df := [.non] }
def d_Nest___init__ : DefM := { ad := meAd "Nest" "__init__", nm := "__init__", ql := "Nest.__init__", pa := defArgs s_Nest___init__, bo := defBody s_Nest___init__, sc := defScope s_Nest___init__ }
def d_BencodeScanner___init__ : DefM := { ad := meAd "BencodeScanner" "__init__", nm := "__init__", ql := "BencodeScanner.__init__", pa := defArgs s_BencodeScanner___init__, bo := defBody s_BencodeScanner___init__, sc := defScope s_BencodeScanner___init__ }
def d_is_digit : DefM := { ad := glAd "is_digit", nm := "is_digit", ql := "is_digit", pa := defArgs s_is_digit, bo := defBody s_is_digit, sc := defScope s_is_digit }
def d_Counted__take_in_count : DefM := { ad := meAd "Counted" "_take_in_count", nm := "_take_in_count", ql := "Counted._take_in_count", pa := defArgs s_Counted__take_in_count, bo := defBody s_Counted__take_in_count, sc := defScope s_Counted__take_in_count }
def d_Counted_take : DefM := { ad := meAd "Counted" "take", nm := "take", ql := "Counted.take", pa := defArgs s_Counted_take, bo := defBody s_Counted_take, sc := defScope s_Counted_take }
def d_normal : DefM := { ad := glAd "normal", nm := "normal", ql := "normal", pa := defArgs s_normal, bo := defBody s_normal, sc := defScope s_normal }
def d_Numeral_pair : DefM := { ad := meAd "Numeral" "pair", nm := "pair", ql := "Numeral.pair", pa := defArgs s_Numeral_pair, bo := defBody s_Numeral_pair, sc := defScope s_Numeral_pair }
def d_Numeral_negate : DefM := { ad := meAd "Numeral" "negate", nm := "negate", ql := "Numeral.negate", pa := defArgs s_Numeral_negate, bo := defBody s_Numeral_negate, sc := defScope s_Numeral_negate }
def d_BencodeNumber__take_minus : DefM := { ad := meAd "BencodeNumber" "_take_minus", nm := "_take_minus", ql := "BencodeNumber._take_minus", pa := defArgs s_BencodeNumber__take_minus, bo := defBody s_BencodeNumber__take_minus, sc := defScope s_BencodeNumber__take_minus }
def d_Numeral_add_digit : DefM := { ad := meAd "Numeral" "add_digit", nm := "add_digit", ql := "Numeral.add_digit", pa := defArgs s_Numeral_add_digit, bo := defBody s_Numeral_add_digit, sc := defScope s_Numeral_add_digit }
def d_BencodeNumber__take_digit : DefM := { ad := meAd "BencodeNumber" "_take_digit", nm := "_take_digit", ql := "BencodeNumber._take_digit", pa := defArgs s_BencodeNumber__take_digit, bo := defBody s_BencodeNumber__take_digit, sc := defScope s_BencodeNumber__take_digit }
def d_BencodeNumber_take : DefM := { ad := meAd "BencodeNumber" "take", nm := "take", ql := "BencodeNumber.take", pa := defArgs s_BencodeNumber_take, bo := defBody s_BencodeNumber_take, sc := defScope s_BencodeNumber_take }
def d_Utf8_is_open : DefM := { ad := prAd "Utf8" "is_open", nm := "is_open", ql := "Utf8.is_open", pa := defArgs s_Utf8_is_open, bo := defBody s_Utf8_is_open, sc := defScope s_Utf8_is_open }
def d_Utf8__begin : DefM := { ad := meAd "Utf8" "_begin", nm := "_begin", ql := "Utf8._begin", pa := defArgs s_Utf8__begin, bo := defBody s_Utf8__begin, sc := defScope s_Utf8__begin }
def d_Utf8__go_on : DefM := { ad := meAd "Utf8" "_go_on", nm := "_go_on", ql := "Utf8._go_on", pa := defArgs s_Utf8__go_on, bo := defBody s_Utf8__go_on, sc := defScope s_Utf8__go_on }
def d_Utf8_take : DefM := { ad := meAd "Utf8" "take", nm := "take", ql := "Utf8.take", pa := defArgs s_Utf8_take, bo := defBody s_Utf8_take, sc := defScope s_Utf8_take }
def d_BencodeKey_take : DefM := { ad := meAd "BencodeKey" "take", nm := "take", ql := "BencodeKey.take", pa := defArgs s_BencodeKey_take, bo := defBody s_BencodeKey_take, sc := defScope s_BencodeKey_take }
def d_Counted_leaf : DefM := { ad := meAd "Counted" "leaf", nm := "leaf", ql := "Counted.leaf", pa := defArgs s_Counted_leaf, bo := defBody s_Counted_leaf, sc := defScope s_Counted_leaf }
def d_BencodeNumber_leaf : DefM := { ad := meAd "BencodeNumber" "leaf", nm := "leaf", ql := "BencodeNumber.leaf", pa := defArgs s_BencodeNumber_leaf, bo := defBody s_BencodeNumber_leaf, sc := defScope s_BencodeNumber_leaf }
def d_BencodeKey_leaf : DefM := { ad := meAd "BencodeKey" "leaf", nm := "leaf", ql := "BencodeKey.leaf", pa := defArgs s_BencodeKey_leaf, bo := defBody s_BencodeKey_leaf, sc := defScope s_BencodeKey_leaf }
def d_Nest_note_key : DefM := { ad := meAd "Nest" "note_key", nm := "note_key", ql := "Nest.note_key", pa := defArgs s_Nest_note_key, bo := defBody s_Nest_note_key, sc := defScope s_Nest_note_key }
def d_Nest_inner : DefM := { ad := meAd "Nest" "inner", nm := "inner", ql := "Nest.inner", pa := defArgs s_Nest_inner, bo := defBody s_Nest_inner, sc := defScope s_Nest_inner }
def d_BencodeScanner__end_value : DefM := { ad := meAd "BencodeScanner" "_end_value", nm := "_end_value", ql := "BencodeScanner._end_value", pa := defArgs s_BencodeScanner__end_value, bo := defBody s_BencodeScanner__end_value, sc := defScope s_BencodeScanner__end_value }
def d_BencodeScanner__end_token : DefM := { ad := meAd "BencodeScanner" "_end_token", nm := "_end_token", ql := "BencodeScanner._end_token", pa := defArgs s_BencodeScanner__end_token, bo := defBody s_BencodeScanner__end_token, sc := defScope s_BencodeScanner__end_token }
def d_Counted___init__ : DefM := { ad := meAd "Counted" "__init__", nm := "__init__", ql := "Counted.__init__", pa := defArgs s_Counted___init__, bo := defBody s_Counted___init__, sc := defScope s_Counted___init__ }
def d_Numeral___init__ : DefM := { ad := meAd "Numeral" "__init__", nm := "__init__", ql := "Numeral.__init__", pa := defArgs s_Numeral___init__, bo := defBody s_Numeral___init__, sc := defScope s_Numeral___init__ }
def d_BencodeNumber___init__ : DefM := { ad := meAd "BencodeNumber" "__init__", nm := "__init__", ql := "BencodeNumber.__init__", pa := defArgs s_BencodeNumber___init__, bo := defBody s_BencodeNumber___init__, sc := defScope s_BencodeNumber___init__ }
def d_Utf8___init__ : DefM := { ad := meAd "Utf8" "__init__", nm := "__init__", ql := "Utf8.__init__", pa := defArgs s_Utf8___init__, bo := defBody s_Utf8___init__, sc := defScope s_Utf8___init__ }
def d_BencodeKey___init__ : DefM := { ad := meAd "BencodeKey" "__init__", nm := "__init__", ql := "BencodeKey.__init__", pa := defArgs s_BencodeKey___init__, bo := defBody s_BencodeKey___init__, sc := defScope s_BencodeKey___init__ }
def d_BencodeScanner__begin_counted : DefM := { ad := meAd "BencodeScanner" "_begin_counted", nm := "_begin_counted", ql := "BencodeScanner._begin_counted", pa := defArgs s_BencodeScanner__begin_counted, bo := defBody s_BencodeScanner__begin_counted, sc := defScope s_BencodeScanner__begin_counted }
def d_Nest_grow : DefM := { ad := meAd "Nest" "grow", nm := "grow", ql := "Nest.grow", pa := defArgs s_Nest_grow, bo := defBody s_Nest_grow, sc := defScope s_Nest_grow }
def d_BencodeScanner__grow : DefM := { ad := meAd "BencodeScanner" "_grow", nm := "_grow", ql := "BencodeScanner._grow", pa := defArgs s_BencodeScanner__grow, bo := defBody s_BencodeScanner__grow, sc := defScope s_BencodeScanner__grow }
def d_Nest_shrink : DefM := { ad := meAd "Nest" "shrink", nm := "shrink", ql := "Nest.shrink", pa := defArgs s_Nest_shrink, bo := defBody s_Nest_shrink, sc := defScope s_Nest_shrink }
def d_BencodeScanner__close : DefM := { ad := meAd "BencodeScanner" "_close", nm := "_close", ql := "BencodeScanner._close", pa := defArgs s_BencodeScanner__close, bo := defBody s_BencodeScanner__close, sc := defScope s_BencodeScanner__close }
def d_BencodeScanner__take_mark : DefM := { ad := meAd "BencodeScanner" "_take_mark", nm := "_take_mark", ql := "BencodeScanner._take_mark", pa := defArgs s_BencodeScanner__take_mark, bo := defBody s_BencodeScanner__take_mark, sc := defScope s_BencodeScanner__take_mark }
def d_BencodeScanner__take : DefM := { ad := meAd "BencodeScanner" "_take", nm := "_take", ql := "BencodeScanner._take", pa := defArgs s_BencodeScanner__take, bo := defBody s_BencodeScanner__take, sc := defScope s_BencodeScanner__take }
def d_BencodeScanner_step : DefM := { ad := meAd "BencodeScanner" "step", nm := "step", ql := "BencodeScanner.step", pa := defArgs s_BencodeScanner_step, bo := defBody s_BencodeScanner_step, sc := defScope s_BencodeScanner_step }
def d_BencodeScanner_end : DefM := { ad := meAd "BencodeScanner" "end", nm := "end", ql := "BencodeScanner.end", pa := defArgs s_BencodeScanner_end, bo := defBody s_BencodeScanner_end, sc := defScope s_BencodeScanner_end }
def d_Builder___init__ : DefM := { ad := meAd "Builder" "__init__", nm := "__init__", ql := "Builder.__init__", pa := defArgs s_Builder___init__, bo := defBody s_Builder___init__, sc := defScope s_Builder___init__ }
def d_Frame___init__ : DefM := { ad := meAd "Frame" "__init__", nm := "__init__", ql := "Frame.__init__", pa := defArgs s_Frame___init__, bo := defBody s_Frame___init__, sc := defScope s_Frame___init__ }
def d_list_of : DefM := { ad := glAd "list_of", nm := "list_of", ql := "list_of", pa := defArgs s_list_of, bo := defBody s_list_of, sc := defScope s_list_of }
def d_map_of : DefM := { ad := glAd "map_of", nm := "map_of", ql := "map_of", pa := defArgs s_map_of, bo := defBody s_map_of, sc := defScope s_map_of }
def d_Frame_built : DefM := { ad := meAd "Frame" "built", nm := "built", ql := "Frame.built", pa := defArgs s_Frame_built, bo := defBody s_Frame_built, sc := defScope s_Frame_built }
def d_Frame_put : DefM := { ad := meAd "Frame" "put", nm := "put", ql := "Frame.put", pa := defArgs s_Frame_put, bo := defBody s_Frame_put, sc := defScope s_Frame_put }
def d_Builder__put : DefM := { ad := meAd "Builder" "_put", nm := "_put", ql := "Builder._put", pa := defArgs s_Builder__put, bo := defBody s_Builder__put, sc := defScope s_Builder__put }
def d_Builder_take : DefM := { ad := meAd "Builder" "take", nm := "take", ql := "Builder.take", pa := defArgs s_Builder_take, bo := defBody s_Builder_take, sc := defScope s_Builder_take }
def d__take_all : DefM := { ad := glAd "_take_all", nm := "_take_all", ql := "_take_all", pa := defArgs s__take_all, bo := defBody s__take_all, sc := defScope s__take_all }
def d_value_of_text : DefM := { ad := glAd "value_of_text", nm := "value_of_text", ql := "value_of_text", pa := defArgs s_value_of_text, bo := defBody s_value_of_text, sc := defScope s_value_of_text }
def d_read_bencode : DefM := { ad := glAd "read_bencode", nm := "read_bencode", ql := "read_bencode", pa := defArgs s_read_bencode, bo := defBody s_read_bencode, sc := defScope s_read_bencode }
def d__law_told : DefM := { ad := glAd "_law_told", nm := "_law_told", ql := "_law_told", pa := defArgs s__law_told, bo := defBody s__law_told, sc := defScope s__law_told }
def d__law_right : DefM := { ad := glAd "_law_right", nm := "_law_right", ql := "_law_right", pa := defArgs s__law_right, bo := defBody s__law_right, sc := defScope s__law_right }
def d_law : DefM := { ad := glAd "law", nm := "law", ql := "law", pa := defArgs s_law, bo := defBody s_law, sc := defScope s_law }
def fn : List DefM := [d__law_cell, d__law_numbers, d__law_state, d__law_next, d__law_many, d__law_points, d__law_big, d__law_normal, d__law_number, d__law_octets, d__law_leaf, d__law_value, d__law_tall, d__law_mixed, d__law_ascii, d__law_count_planted, d__law_leaf_planted, d__law_utf8, d__law_key_planted, d__law_planted, d__law_spoilt, d__law_same, d__law_count, d__law_counted, d__law_integer_read, d__law_decode, d__law_key_read, d__law_parts_read, d__law_value_read, d__law_text_read, d_AlikeError___init__, d_Nest___init__, d_BencodeScanner___init__, d_is_digit, d_Counted__take_in_count, d_Counted_take, d_normal, d_Numeral_pair, d_Numeral_negate, d_BencodeNumber__take_minus, d_Numeral_add_digit, d_BencodeNumber__take_digit, d_BencodeNumber_take, d_Utf8_is_open, d_Utf8__begin, d_Utf8__go_on, d_Utf8_take, d_BencodeKey_take, d_Counted_leaf, d_BencodeNumber_leaf, d_BencodeKey_leaf, d_Nest_note_key, d_Nest_inner, d_BencodeScanner__end_value, d_BencodeScanner__end_token, d_Counted___init__, d_Numeral___init__, d_BencodeNumber___init__, d_Utf8___init__, d_BencodeKey___init__, d_BencodeScanner__begin_counted, d_Nest_grow, d_BencodeScanner__grow, d_Nest_shrink, d_BencodeScanner__close, d_BencodeScanner__take_mark, d_BencodeScanner__take, d_BencodeScanner_step, d_BencodeScanner_end, d_Builder___init__, d_Frame___init__, d_list_of, d_map_of, d_Frame_built, d_Frame_put, d_Builder__put, d_Builder_take, d__take_all, d_value_of_text, d_read_bencode, d__law_told, d__law_right, d_law]
def fa : List He.Fa := [.glo "_law_cell", .glo "_law_numbers", .glo "_law_state", .glo "_law_next", .glo "_law_many", .glo "_law_points", .glo "_law_big", .glo "_law_normal", .glo "_law_number", .glo "_law_octets", .glo "_law_leaf", .glo "_law_value", .glo "_law_tall", .glo "_law_mixed", .glo "_law_ascii", .glo "_law_count_planted", .glo "_law_leaf_planted", .glo "_law_utf8", .glo "_law_key_planted", .glo "_law_planted", .glo "_law_spoilt", .glo "_law_same", .glo "_law_count", .glo "_law_counted", .glo "_law_integer_read", .glo "_law_decode", .glo "_law_key_read", .glo "_law_parts_read", .glo "_law_value_read", .glo "_law_text_read", .glo "is_digit", .glo "normal", .glo "list_of", .glo "map_of", .glo "_take_all", .glo "value_of_text", .glo "read_bencode", .glo "_law_told", .glo "_law_right", .glo "law", .free "tuple", .free "sorted", .free "len", .free "abs", .free "range", .free "int", .free "isinstance", .free "list", .free "bool", .free "str", .free "max", .free "ord", .int "PIECE" 10000000000000000000000000000000000000000000000000000000000000000, .int "PIECE_DIGITS" 64, .int "ZERO_counted" 48, .int "NINE" 57, .int "COLON" 58, .int "SMALL_E" 101, .int "MINUS" 45, .int "LARGEST_EXPONENT" 800, .int "ZERO_marks" 48, .int "DEEPEST" 24, .int "SMALL_L" 108, .int "SMALL_D" 100, .int "SMALL_I" 105, .glo "Doubled", .glo "Unreadable", .glo "AlikeError", .glo "Unwritable", .cls "Counted", .glo "Counted", .mkr "Counted", .noat "Counted" "is_done", .noat "Counted" "can_end", .noat "Counted" "has_begun", .noat "Counted" "octets", .noat "Counted" "_missing", .meth "Counted" "take", .meth "Counted" "_take_in_count", .meth "Counted" "leaf", .cls "Numeral", .glo "Numeral", .mkr "Numeral", .noat "Numeral" "_sign", .noat "Numeral" "_worth", .noat "Numeral" "_scale", .noat "Numeral" "_exponent_sign", .noat "Numeral" "_exponent", .meth "Numeral" "negate", .meth "Numeral" "negate_exponent", .meth "Numeral" "add_digit", .meth "Numeral" "add_fraction_digit", .meth "Numeral" "add_exponent_digit", .meth "Numeral" "pair", .cls "Utf8", .glo "Utf8", .mkr "Utf8", .noat "Utf8" "points", .noat "Utf8" "_missing", .noat "Utf8" "_worth", .noat "Utf8" "_least", .noat "Utf8" "_most", .meth "Utf8" "take", .meth "Utf8" "_begin", .meth "Utf8" "_go_on", .cls "BencodeNumber", .glo "BencodeNumber", .mkr "BencodeNumber", .noat "BencodeNumber" "is_done", .noat "BencodeNumber" "_numeral", .noat "BencodeNumber" "_state", .meth "BencodeNumber" "take", .meth "BencodeNumber" "_take_minus", .meth "BencodeNumber" "_take_digit", .meth "BencodeNumber" "leaf", .cls "BencodeKey", .glo "BencodeKey", .mkr "BencodeKey", .noat "BencodeKey" "is_done", .noat "BencodeKey" "_counted", .noat "BencodeKey" "_utf8", .meth "BencodeKey" "take", .meth "BencodeKey" "leaf", .cls "Nest", .glo "Nest", .mkr "Nest", .noat "Nest" "_levels", .meth "Nest" "inner", .meth "Nest" "grow", .meth "Nest" "shrink", .meth "Nest" "note_key", .cls "BencodeScanner", .glo "BencodeScanner", .mkr "BencodeScanner", .noat "BencodeScanner" "_place", .noat "BencodeScanner" "_wanted", .noat "BencodeScanner" "_nest", .noat "BencodeScanner" "_token", .meth "BencodeScanner" "step", .meth "BencodeScanner" "end", .meth "BencodeScanner" "_take", .meth "BencodeScanner" "_end_token", .meth "BencodeScanner" "_end_value", .meth "BencodeScanner" "_take_mark", .meth "BencodeScanner" "_begin_counted", .meth "BencodeScanner" "_grow", .meth "BencodeScanner" "_close", .cls "Frame", .glo "Frame", .mkr "Frame", .noat "Frame" "kind", .noat "Frame" "key", .noat "Frame" "inside", .meth "Frame" "put", .meth "Frame" "built", .cls "Builder", .glo "Builder", .mkr "Builder", .noat "Builder" "is_done", .noat "Builder" "value", .noat "Builder" "_frames", .meth "Builder" "take", .meth "Builder" "_put"]
def ex (K : Frg) : Bool := conB K "FIRSTS" (.tuple [.tuple [.int 194, .int 223, .int 1, .int 128, .int 191], .tuple [.int 224, .int 224, .int 2, .int 160, .int 191], .tuple [.int 225, .int 236, .int 2, .int 128, .int 191], .tuple [.int 237, .int 237, .int 2, .int 128, .int 159], .tuple [.int 238, .int 239, .int 2, .int 128, .int 191], .tuple [.int 240, .int 240, .int 3, .int 144, .int 191], .tuple [.int 241, .int 243, .int 3, .int 128, .int 191], .tuple [.int 244, .int 244, .int 3, .int 128, .int 143]]) && (conB K "MARKS" (.tuple [.int 0, .int 192, .int 224, .int 240]) && (exkB K (He.ga K "Doubled") (meAd "AlikeError" "__init__" K) "what" && (exkB K (He.ga K "Unreadable") (meAd "AlikeError" "__init__" K) "what" && (exkB K (He.ga K "AlikeError") (meAd "AlikeError" "__init__" K) "what" && (exkB K (He.ga K "Unwritable") (meAd "AlikeError" "__init__" K) "what" && (isxB K (He.ga K "Unreadable") && (decide (PySem.W.exmOne K (.ref (He.ga K "Unreadable")) (.ref (He.ga K "AlikeError")) = some true) && (decide (PySem.W.kitOne K (.ref (He.ga K "Unreadable")) (.ref (He.ga K "Unwritable")) = some false) && (decide (PySem.W.kitOne K (.ref (He.ga K "Unreadable")) (.ref (He.ga K "Doubled")) = some false) && (decide (PySem.W.kitOne K (.ref (He.ga K "Unreadable")) (.ref (He.ga K "Unreadable")) = some true) && (prB K "Utf8" "is_open" && (digB K))))))))))))
def al : List Addr := ([2, 3, 6, 4, 21, 28, 35, 73, 136, 141, 150, 196, 245, 280, 302, 315, 327, 339, 348, 353, 398, 482, 517, 552, 563, 570, 577, 584, 591, 596, 603, 610, 617, 624, 631, 638, 643, 650, 655, 662, 669, 674, 681, 688, 695, 702, 709, 716, 723, 730, 737, 744, 751, 758, 763, 770, 777, 784, 791, 796, 0, 20, 27, 34, 72, 135, 142, 143, 144, 145, 146, 147, 148, 149, 195, 244, 279, 301, 314, 326, 338, 347, 352, 397, 481, 516, 551, 562, 569, 576, 583, 590, 595, 602, 609, 616, 623, 630, 637, 642] : List Addr) ++ ([649, 654, 661, 668, 673, 680, 687, 694, 701, 708, 715, 722, 729, 736, 743, 750, 757, 762, 769, 776, 783, 790, 795, 15, 16, 17, 18, 19, 22, 23, 24, 25, 26, 29, 30, 31, 32, 33, 49, 56, 63, 70, 71, 74, 75, 91, 98, 105, 112, 119, 126, 133, 134, 137, 138, 164, 172, 179, 186, 193, 194, 197, 198, 214, 221, 228, 235, 242, 243, 246, 247, 263, 270, 277, 278, 281, 282, 299, 300, 303, 313, 325, 337, 342, 343, 344, 345, 346, 349, 350, 351, 367, 374, 381, 388, 395, 396, 399, 400, 416] : List Addr) ++ ([423, 430, 437, 444, 451, 458, 465, 472, 479, 480, 483, 484, 500, 507, 514, 515, 518, 519, 535, 542, 549, 550, 553, 554, 557, 558, 559, 560, 561, 564, 565, 566, 567, 568, 571, 572, 573, 574, 575, 578, 579, 580, 581, 582, 585, 586, 587, 588, 589, 592, 593, 594, 597, 598, 599, 600, 601, 604, 605, 606, 607, 608, 611, 612, 613, 614, 615, 618, 619, 620, 621, 622, 625, 626, 627, 628, 629, 632, 633, 634, 635, 636, 639, 640, 641, 644, 645, 646, 647, 648, 651, 652, 653, 656, 657, 658, 659, 660, 663, 664] : List Addr) ++ ([665, 666, 667, 670, 671, 672, 675, 676, 677, 678, 679, 682, 683, 684, 685, 686, 689, 690, 691, 692, 693, 696, 697, 698, 699, 700, 703, 704, 705, 706, 707, 710, 711, 712, 713, 714, 717, 718, 719, 720, 721, 724, 725, 726, 727, 728, 731, 732, 733, 734, 735, 738, 739, 740, 741, 742, 745, 746, 747, 748, 749, 752, 753, 754, 755, 756, 759, 760, 761, 764, 765, 766, 767, 768, 771, 772, 773, 774, 775, 778, 779, 780, 781, 782, 785, 786, 787, 788, 789, 792, 793, 794, 48, 55, 62, 69, 90, 97, 104, 111] : List Addr) ++ ([118, 125, 132, 163, 171, 178, 185, 192, 213, 220, 227, 234, 241, 262, 269, 276, 298, 292, 366, 373, 380, 387, 394, 415, 422, 429, 436, 443, 450, 457, 464, 471, 478, 499, 506, 513, 534, 541, 548, 43, 44, 45, 46, 47, 50, 51, 52, 53, 54, 57, 58, 59, 60, 61, 64, 65, 66, 67, 68, 85, 86, 87, 88, 89, 92, 93, 94, 95, 96, 99, 100, 101, 102, 103, 106, 107, 108, 109, 110, 113, 114, 115, 116, 117, 120, 121, 122, 123, 124, 127, 128, 129, 130, 131, 158, 159, 160, 161, 162, 170] : List Addr) ++ ([173, 174, 175, 176, 177, 180, 181, 182, 183, 184, 187, 188, 189, 190, 191, 208, 209, 210, 211, 212, 215, 216, 217, 218, 219, 222, 223, 224, 225, 226, 229, 230, 231, 232, 233, 236, 237, 238, 239, 240, 257, 258, 259, 260, 261, 264, 265, 266, 267, 268, 271, 272, 273, 274, 275, 293, 294, 295, 296, 297, 361, 362, 363, 364, 365, 368, 369, 370, 371, 372, 375, 376, 377, 378, 379, 382, 383, 384, 385, 386, 389, 390, 391, 392, 393, 410, 411, 412, 413, 414, 417, 418, 419, 420, 421, 424, 425, 426, 427, 428] : List Addr) ++ ([431, 432, 433, 434, 435, 438, 439, 440, 441, 442, 445, 446, 447, 448, 449, 452, 453, 454, 455, 456, 459, 460, 461, 462, 463, 466, 467, 468, 469, 470, 473, 474, 475, 476, 477, 494, 495, 496, 497, 498, 501, 502, 503, 504, 505, 508, 509, 510, 511, 512, 529, 530, 531, 532, 533, 536, 537, 538, 539, 540, 543, 544, 545, 546, 547] : List Addr)
abbrev RR : PySem.W.OpenRow := PySem.W.OpenLaw.row PySem.Challenge.rw_formsalike_k38_bencode_refused
def loose : List PySem.Str := (["_wall", "ZERO_marks", "MINUS", "SMALL_D", "SMALL_E", "SMALL_I", "SMALL_L", "LARGEST_EXPONENT", "PIECE_DIGITS", "PIECE", "normal", "ZERO_counted", "NINE", "COLON", "is_digit", "Counted", "Numeral", "MARKS", "FIRSTS", "Utf8", "BencodeNumber", "BencodeKey", "AlikeError", "Unreadable", "Unwritable", "Doubled", "DEEPEST", "list_of", "map_of", "Nest"] : List PySem.Str) ++ (["BencodeScanner", "Frame", "Builder", "value_of_text", "_take_all", "read_bencode", "_law_cell", "_law_numbers", "_law_state", "_law_next", "_law_many", "_law_big", "_law_normal", "_law_number", "_law_points", "_law_octets", "_law_leaf", "_law_value", "_law_tall", "_law_mixed", "_law_ascii", "_law_utf8", "_law_same", "_law_count_planted", "_law_leaf_planted", "_law_key_planted", "_law_planted", "_law_decode", "_law_count", "_law_counted"] : List PySem.Str) ++ (["_law_integer_read", "_law_key_read", "_law_value_read", "_law_parts_read", "_law_text_read", "_law_spoilt", "_law_told", "_law_right"] : List PySem.Str)
abbrev hk : PySem.W.Hook := hookZ al fa ex fn
def ob (s : PySem.W.SharedT) : AlM := obsM fa ex fn (He.frG (HandSHeadRun.getT s) al)
theorem ob_eq (s : PySem.W.SharedT) : ob s = hk.obs s.abs := obsZ_eq (HandSHeadRun.getT_eq s)
theorem run (w : World) : HandSHeadRun.RunEq RR (PySem.W.view RR.prog [81]) hk ob 6000 loose w := by
  intro os
  kernel_rfl


/-! ### numbers by powers of ten -/
theorem pow_bits {b : Int} (hb : b.natAbs < 16) (c : Nat) : (b ^ c).natAbs < 2 ^ (4 * c + 1) := by
  rw [Int.natAbs_pow]
  have h1 : b.natAbs ^ c ≤ 16 ^ c := Nat.pow_le_pow_left (by omega) c
  have h2 : (16 : Nat) ^ c = 2 ^ (4 * c) := by
    rw [Nat.pow_mul]
  have h3 : (2 : Nat) ^ (4 * c) < 2 ^ (4 * c + 1) := Nat.pow_lt_pow_right (by decide) (by omega)
  omega
theorem bits10 (n : Nat) : (10 : Int) ^ n < 2 ^ (4 * n + 1) := by
  have h := pow_bits (b := 10) (by decide) n
  have e : ((10 : Int) ^ n).natAbs = 10 ^ n := by rw [Int.natAbs_pow]; rfl
  rw [e] at h
  have h2 : ((10 ^ n : Nat) : Int) < ((2 ^ (4 * n + 1) : Nat) : Int) := Int.ofNat_lt.mpr h
  rw [Int.natCast_pow, Int.natCast_pow] at h2
  exact h2
theorem abs10 {x : Int} {n : Nat} (h : x.natAbs < 10 ^ n) : x.natAbs < 2 ^ (4 * n + 1) := by
  have h1 := pow_bits (b := 10) (by decide) n
  have e : ((10 : Int) ^ n).natAbs = 10 ^ n := by rw [Int.natAbs_pow]; rfl
  rw [e] at h1
  omega
theorem abs_mul10 {x y : Int} {a b : Nat} (h1 : x.natAbs < 10 ^ a) (h2 : y.natAbs < 10 ^ b) : (x * y).natAbs < 10 ^ (a + b) := by
  rw [Int.natAbs_mul, Nat.pow_add]
  exact Nat.mul_lt_mul'' h1 h2
theorem natAbs10 (n : Nat) : ((10 : Int) ^ n).natAbs = 10 ^ n := by rw [Int.natAbs_pow]; rfl
theorem pow10_le {a b : Nat} (h : a ≤ b) : (10 : Nat) ^ a ≤ 10 ^ b := Nat.pow_le_pow_right (by decide) h
def sp_law (K : PySem.W.Frag) : Sp := sp1 fun a H Q _ => ∃ (sl : Addr) (ns : List Int), a = .ref sl ∧ SqL K H sl (ns.map V.int) ∧ ∀ H', Q (.bl true) H'

/-! ### normal -/

/-- the normal form, one zero after another -/
def nrm (m e : Int) : Int × Int := if m = 0 then (0, 0) else if m % 10 = 0 then nrm (m / 10) (e + 1) else (m, e)
termination_by m.natAbs
decreasing_by omega
theorem nrm_zero (e : Int) : nrm 0 e = (0, 0) := by
  unfold nrm
  simp
theorem nrm_stop {m : Int} (e : Int) (h : m % 10 ≠ 0) : nrm m e = (m, e) := by
  unfold nrm
  rw [if_neg (by omega), if_neg h]
theorem nrm_step {m : Int} (e : Int) (h0 : m ≠ 0) (h : m % 10 = 0) : nrm m e = nrm (m / 10) (e + 1) := by
  rw [nrm, if_neg h0, if_pos h]
theorem nrm_mul {a : Int} (h0 : a ≠ 0) (e : Int) : ∀ k : Nat, nrm (a * 10 ^ k) e = nrm a (e + k)
  | 0 => by simp
  | k + 1 => by
    have h1 : a * 10 ^ k ≠ 0 := Int.mul_ne_zero h0 (Int.ne_of_gt (Int.pow_pos (by decide)))
    have e1 : a * 10 ^ (k + 1) = 10 * (a * 10 ^ k) := by
      rw [Int.pow_succ, ← Int.mul_assoc, Int.mul_comm]
    rw [e1, nrm_step e (by omega) (by omega), show 10 * (a * 10 ^ k) / 10 = a * 10 ^ k by omega, nrm_mul h0 (e + 1) k]
    congr 1
    omega
theorem nrm_is {m a : Int} (h : a % 10 ≠ 0) (k : Nat) (e1 : m = a * 10 ^ k) (e : Int) : nrm m e = (a, e + k) := by
  rw [e1, nrm_mul (by omega), nrm_stop _ h]
theorem nrm_spec : ∀ (n : Nat) (m e : Int), m.natAbs ≤ n → m ≠ 0 → ∃ (a : Int) (k : Nat), nrm m e = (a, e + k) ∧ a % 10 ≠ 0 ∧ m = a * 10 ^ k
  | 0, m, _, h, h0 => absurd (Int.natAbs_eq_zero.mp (by omega)) h0
  | n + 1, m, e, h, h0 => by
    by_cases c : m % 10 = 0
    · obtain ⟨a, k, h1, h2, h3⟩ := nrm_spec n (m / 10) (e + 1) (by omega) (by omega)
      refine ⟨a, k + 1, ?_, h2, ?_⟩
      · rw [nrm_step e h0 c, h1]
        congr 1
        omega
      · rw [Int.pow_succ, ← Int.mul_assoc, ← h3]
        omega
    · exact ⟨m, 0, by rw [nrm_stop e c]; simp, c, by simp⟩
theorem nrm_of {m : Int} (e : Int) (h0 : m ≠ 0) : ∃ (a : Int) (k : Nat), nrm m e = (a, e + k) ∧ a % 10 ≠ 0 ∧ m = a * 10 ^ k := nrm_spec _ m e (Nat.le_refl _) h0
theorem nrm_piece {m : Int} (e : Int) (h0 : m ≠ 0) (h : m % 10000000000000000000000000000000000000000000000000000000000000000 = 0) :
    nrm (m / 10000000000000000000000000000000000000000000000000000000000000000) (e + 64) = nrm m e := by
  have e1 : m = (m / 10000000000000000000000000000000000000000000000000000000000000000) * 10 ^ 64 := by
    have e2 : (10 : Int) ^ 64 = 10000000000000000000000000000000000000000000000000000000000000000 := by decide
    rw [e2]
    omega
  have h1 : m / 10000000000000000000000000000000000000000000000000000000000000000 ≠ 0 := by omega
  have e3 := nrm_mul h1 e 64
  rw [← e1] at e3
  exact e3.symm
def sp_normal : Sp := sp2 fun a b H Q _ => ∃ m e, a = .int m ∧ b = .int e ∧ ∀ p x y, nrm m e = (x, y) → H p = none → Q (.ref p) (upd H p (.tup [.int x, .int y]))
section
variable {P : Program} {w : World} {K : PySem.W.Frag} {mg : Str → Option Value} {base : Heap} {f : Addr} {fd : FuncData}
theorem ok_normal (F : FunD K "normal" "normal" (defArgs s_normal) (defBody s_normal) (defScope s_normal) [] [] (glAd "normal" K) fd) (m : mg "normal" = some (.ref (glAd "normal" K))) (nb : Nm K mg) : Cal P w K mg base 1 "normal" sp_normal [] := by
  refine calD F m sc_normal (fun _ _ _ _ _ _ us hl => match us, hl with | [_, _], _ => rfl) len2 (fun cdv A outer s H vs Q E hr h => ⟨_, (pss_cons (ps_if (pt_cmpR op_eq (pv 0) pe_int (nomark _))
    (pss_one (ps_ret (pe_tup (pa_cons pe_int (pa_cons pe_int pa_nil)))))
    pss_nil)
    (pss_cons (ps_while PassesOwn.never (pt_cmpR op_eq (pe_op op_mod (pv 0) (pe_gc rfl nb.g_PIECE)) pe_int (nomark _))
    (pss_cons (ps_set (i := 0) sc_normal.nd rfl (Or.inl rfl) (pe_op op_fdivW (pv 0) (pe_gc rfl nb.g_PIECE)))
    (pss_one (ps_set (i := 1) sc_normal.nd rfl (Or.inl rfl) (pe_op op_add (pv 1) (pe_gc rfl nb.g_PIECE_DIGITS))))))
    (pss_cons (ps_while PassesOwn.never (pt_cmpR op_eq (pe_op op_mod (pv 0) pe_int) pe_int (nomark _))
    (pss_cons (ps_set (i := 0) sc_normal.nd rfl (Or.inl rfl) (pe_op op_fdiv (pv 0) pe_int))
    (pss_one (ps_set (i := 1) sc_normal.nd rfl (Or.inl rfl) (pe_op op_add (pv 1) pe_int)))))
    (pss_one (ps_ret (pe_tup (pa_cons (pv 0) (pa_cons (pv 1) pa_nil)))))))), ?_⟩)
  obtain ⟨_, _, rfl, m, e, rfl, rfl, h⟩ := h
  walk_at "rd"
  refine r_ite (fun c => ?_) (fun c => ?_)
  · walk_at "rd"
    refine ⟨(by show 2 ≤ sizeLine; decide), fun p hp => ?_⟩
    exact h p 0 0 (by rw [c, nrm_zero]) hp
  · walk_at "rd"
    refine r_while (fun n σ H' => H = H' ∧ ∃ m' e', σ = [some (.int m'), some (.int e')] ∧ m' ≠ 0 ∧ nrm m' e' = nrm m e ∧ n = m'.natAbs) _ ⟨rfl, m, e, rfl, c, rfl, rfl⟩ ?_
    rintro n σ _ ⟨rfl, m', e', rfl, h0, h1, rfl⟩
    walk_at "rd"
    refine r_ite (fun c2 => ?_) (fun c2 => ?_)
    · refine r_turn ?_
      walk_at "rd"
      exact ⟨_, by omega, rfl, _, _, rfl, by omega, by rw [nrm_piece e' h0 c2]; exact h1, rfl⟩
    · walk_at "rd"
      refine r_while (fun n σ H' => H = H' ∧ ∃ m' e', σ = [some (.int m'), some (.int e')] ∧ m' ≠ 0 ∧ nrm m' e' = nrm m e ∧ n = m'.natAbs) _ ⟨rfl, m', e', rfl, h0, h1, rfl⟩ ?_
      rintro n σ _ ⟨rfl, m', e', rfl, h0, h1, rfl⟩
      walk_at "rd"
      refine r_ite (fun c3 => ?_) (fun c3 => ?_)
      · refine r_turn ?_
        walk_at "rd"
        exact ⟨_, by omega, rfl, _, _, rfl, by omega, by rw [← nrm_step e' h0 c3]; exact h1, rfl⟩
      · walk_at "rd"
        refine ⟨(by show 2 ≤ sizeLine; decide), fun p hp => ?_⟩
        exact h p m' e' (by rw [← h1, nrm_stop e' c3]) hp
end

/-! ### the law's state: a list of drawn numbers, its place, and the script; every draw is any number below its bound -/
structure SC where
  a : Addr
  nl : Addr
  sl : Addr
  nums : List Int
  ns : List Int
structure LS (K : PySem.W.Frag) (S : SC) (H : Hp) : Prop where
  st : ∃ k l f : Int, H S.a = some (.lst [.ref S.nl, .int k, .int l, .ref S.sl, .int f])
  nm : H S.nl = some (.lst (S.nums.map V.int))
  len : S.nums.length = 120
  ne : S.nl ≠ S.a
  scr : SqL K H S.sl (S.ns.map V.int)
/-- all but the state's own list stays -/
def Keep (S : SC) (H H' : Hp) : Prop := ∀ b o, b ≠ S.a → H b = some o → H' b = some o
theorem Keep.refl (S : SC) (H : Hp) : Keep S H H := fun _ _ _ h => h
theorem Keep.trans {S : SC} {H H1 H2 : Hp} (a : Keep S H H1) (b : Keep S H1 H2) : Keep S H H2 := fun c o n h => b c o n (a c o n h)
theorem Keep.of {S : SC} {H H' : Hp} (h : Same H H') : Keep S H H' := fun b o _ q => h b o q
section
variable {K : PySem.W.Frag} {S : SC} {H H' : Hp}
theorem LS.same (L : LS K S H) (h : Same H H') : LS K S H' := by
  obtain ⟨⟨k, l, f, e⟩, h2, h3, h4, h5⟩ := L
  exact ⟨⟨k, l, f, h _ _ e⟩, h _ _ h2, h3, h4, h.seq h5⟩
theorem LS.new (L : LS K S H) {p : Addr} (h : H p = none) (o : HO) : LS K S (upd H p o) := L.same (same_upd h o)
theorem LS.put (L : LS K S H) (k l f : Int) : LS K S (upd H S.a (.lst [.ref S.nl, .int k, .int l, .ref S.sl, .int f])) := by
  obtain ⟨⟨k', l', f', e⟩, h2, h3, h4, h5⟩ := L
  refine ⟨⟨k, l, f, upd_same⟩, (upd_ne h4).trans h2, h3, h4, ?_⟩
  rcases h5 with (h | ⟨o, h⟩) | h
  · refine .inl (.inl ((upd_ne fun q => ?_).trans h))
    rw [q, e] at h
    injection h with h
    injection h with h
    cases hn : S.ns with
    | nil =>
      rw [hn] at h
      cases h
    | cons x r =>
      rw [hn] at h
      cases h
  · refine .inl (.inr ⟨o, (upd_ne fun q => ?_).trans h⟩)
    rw [q, e] at h
    cases h
  · exact .inr h
theorem Keep.put (o : HO) : Keep S H (upd H S.a o) := fun b u n h => (upd_ne n).trans h
/-- an address that is free later was free before -/
theorem Keep.free (h : Keep S H H') (L : LS K S H') {p : Addr} (hp : H' p = none) : H p = none := by
  have n : p ≠ S.a := fun e => by
    obtain ⟨k, l, f, q⟩ := L.st
    rw [e, q] at hp
    cases hp
  cases e : H p with
  | none => rfl
  | some o =>
    rw [h p o n e] at hp
    cases hp
theorem LS.ne_free (L : LS K S H) {p : Addr} (hp : H p = none) : p ≠ S.a := fun e => by
  obtain ⟨k, l, f, q⟩ := L.st
  rw [e, q] at hp
  cases hp
end
/-- the state with what is left of its budget -/
structure LB (K : PySem.W.Frag) (S : SC) (l : Int) (H : Hp) : Prop where
  ls : LS K S H
  at_ : ∃ k f : Int, H S.a = some (.lst [.ref S.nl, .int k, .int l, .ref S.sl, .int f])
section
variable {K : PySem.W.Frag} {S : SC} {l : Int} {H H' : Hp}
theorem LB.same (L : LB K S l H) (h : Same H H') : LB K S l H' := by
  obtain ⟨h1, k, f, e⟩ := L
  exact ⟨h1.same h, k, f, h _ _ e⟩
theorem LB.new (L : LB K S l H) {p : Addr} (h : H p = none) (o : HO) : LB K S l (upd H p o) := L.same (same_upd h o)
theorem LB.put (L : LB K S l H) (k l' f : Int) : LB K S l' (upd H S.a (.lst [.ref S.nl, .int k, .int l', .ref S.sl, .int f])) := ⟨L.ls.put k l' f, k, f, upd_same⟩
theorem LB.ne_free (L : LB K S l H) {p : Addr} (hp : H p = none) : p ≠ S.a := L.ls.ne_free hp
theorem LB.noTup (L : LB K S l H) {a : Addr} {xs : List V} (h : H a = some (.tup xs)) : a ≠ S.a := fun e => by
  obtain ⟨_, k, f, e'⟩ := L
  rw [e, e'] at h
  cases h
end




def sp__law_cell (K : PySem.W.Frag) : Sp := sp2 fun a b H Q _ => ∃ (sl : Addr) (ns : List Int) (k : Int), a = .ref sl ∧ b = .int k ∧ SqL K H sl (ns.map V.int) ∧ 0 ≤ k ∧ ∀ z : Int, Q (.int z) H
def sp__law_numbers : Sp := sp2 fun a b H Q _ => ∃ (z : Int) (n : Nat), a = .int z ∧ b = .int (n : Int) ∧ n ≤ 1000 ∧ ∀ (p : Addr) (xs : List Int), H p = none → xs.length = n → Q (.ref p) (upd H p (.lst (xs.map V.int)))
def sp__law_state (K : PySem.W.Frag) : Sp := sp2 fun a b H Q _ => ∃ (sl : Addr) (ns : List Int) (l : Int), a = .ref sl ∧ b = .int l ∧ SqL K H sl (ns.map V.int) ∧
  ∀ (S : SC) (H' : Hp), S.sl = sl → S.ns = ns → LB K S l H' → Same H H' → H S.a = none → Q (.ref S.a) H'
def sp__law_next (K : PySem.W.Frag) : Sp := sp2 fun a b H Q _ => ∃ (S : SC) (l : Int) (m : Int), a = .ref S.a ∧ b = .int m ∧ 0 < m ∧ LB K S l H ∧ ∀ (r : Int) (H' : Hp), 0 ≤ r → r < m → LB K S l H' → Keep S H H' → Q (.int r) H'
section
variable {P : Program} {w : World} {K : PySem.W.Frag} {mg : Str → Option Value} {base : Heap} {f : Addr} {fd : FuncData}
theorem ok__law_cell (F : FunD K "_law_cell" "_law_cell" (defArgs s__law_cell) (defBody s__law_cell) (defScope s__law_cell) [] [] (glAd "_law_cell" K) fd) (m : mg "_law_cell" = some (.ref (glAd "_law_cell" K))) (nb : Nm K mg) : Cal P w K mg base 1 "_law_cell" (sp__law_cell K) [] := by
  refine calD F m sc__law_cell (fun _ _ _ _ _ _ us hl => match us, hl with | [_, _], _ => rfl) len2 (fun cdv A outer s H vs Q E hr h => ⟨_, (pss_cons (ps_if (pt_cmpR op_lt (pv 1) (pe_callB call_len_seq (by rfl) nb.len PySem.boot_len (pa_cons (pv 0) pa_nil)) (nomark _))
    (pss_one (ps_ret (pe_ix ix_list (pv 0) (pv 1) (fun _ _ => rfl))))
    pss_nil)
    (pss_one (ps_ret pe_int))), ?_⟩)
  obtain ⟨_, _, rfl, sl, ns, k, rfl, rfl, hs, h0, h⟩ := h
  walk_at "rd"
  refine ⟨_, _, rfl, .inl hs, ?_⟩
  walk_at "rd"
  refine r_ite (fun c => ?_) (fun c => ?_)
  · rw [List.length_map] at c
    obtain ⟨v, _, e⟩ := atI_ints h0 c
    walk_at "rd"
    exact r_ixL hs e (h v)
  · walk_at "rd"
    exact h 0
theorem ok__law_numbers (F : FunD K "_law_numbers" "_law_numbers" (defArgs s__law_numbers) (defBody s__law_numbers) (defScope s__law_numbers) [] [] (glAd "_law_numbers" K) fd) (m : mg "_law_numbers" = some (.ref (glAd "_law_numbers" K))) (nb : Nm K mg) : Cal P w K mg base 1 "_law_numbers" sp__law_numbers [] := by
  refine calD F m sc__law_numbers (fun _ _ _ _ _ _ us hl => match us, hl with | [_, _], _ => rfl) len2 (fun cdv A outer s H vs Q E hr h => ⟨_, (pss_cons (ps_set (i := 2) sc__law_numbers.nd rfl (Or.inl rfl) (pe_callB call_abs (by rfl) nb.abs (by decide +kernel) (pa_cons (pv 0) pa_nil)))
    (pss_cons (ps_set (i := 3) sc__law_numbers.nd rfl (Or.inl rfl) (pv 2))
    (pss_cons (ps_set (i := 4) sc__law_numbers.nd rfl (Or.inl rfl) (pe_lst pa_nil))
    (pss_cons (ps_for PassesOwn.never rfl (pi_range1 rfl nb.range (pa_cons (pv 1) pa_nil)) (pg_name (i := 5) sc__law_numbers.nd rfl (Or.inl rfl))
    (pss_one (ps_if (PW.pt (pw_and (pt_cmpR op_ge (pv 3) (pe_op op_pow pe_int pe_int) (nomark _)) (pw_and1 (pt_cmpR op_gt (pv 2) pe_int (nomark _)))))
    (pss_cons (ps_expr (pe_bm PySem.F.plainAttrs_list PySem.F.slot_list_append PySem.F.type_list_append mt_append (pv 4) (pa_cons (pe_op op_mod (pe_callTy call_int1 (by rfl) nb.int (by decide +kernel) (pa_cons (pv 2) pa_nil)) pe_int) pa_nil)))
    (pss_one (ps_set (i := 2) sc__law_numbers.nd rfl (Or.inl rfl) (pe_op op_fdiv (pv 2) pe_int))))
    (pss_cons (ps_set (i := 6) sc__law_numbers.nd rfl (Or.inl rfl) (pe_op op_mod (pe_callTy call_int1 (by rfl) nb.int (by decide +kernel) (pa_cons (pe_op op_add (pe_op op_add (pe_op op_mul (pv 3) pe_int) (pe_op op_mul (pv 5) pe_int)) pe_int) pa_nil)) pe_int))
    (pss_cons (ps_set (i := 6) sc__law_numbers.nd rfl (Or.inl rfl) (pe_op op_mod (pe_callTy call_int1 (by rfl) nb.int (by decide +kernel) (pa_cons (pe_op op_add (pe_op op_add (pe_op op_mul (pv 6) (pv 6)) (pe_op op_mul pe_int (pv 5))) pe_int) pa_nil)) pe_int))
    (pss_one (ps_expr (pe_bm PySem.F.plainAttrs_list PySem.F.slot_list_append PySem.F.type_list_append mt_append (pv 4) (pa_cons (pe_op op_mod (pe_callTy call_int1 (by rfl) nb.int (by decide +kernel) (pa_cons (pe_op op_fdiv (pv 6) pe_int) pa_nil)) pe_int) pa_nil)))))))))
    (pss_one (ps_ret (pv 4))))))), ?_⟩)
  obtain ⟨_, _, rfl, z, n, rfl, rfl, hn, h⟩ := h
  walk_at "rd"
  refine ⟨Nat.zero_le _, fun p hp => ?_⟩
  walk_at "rd"
  refine r_turns (by omega) (by omega) (fun i σ H' => ∃ (rest size : Int) (xs : List Int) (k mx : Option V), σ = [some (.int z), some (.int (n : Int)), some (.int rest), some (.int size), some (.ref p), k, mx] ∧ xs.length = i ∧ H' = upd H p (.lst (xs.map V.int))) ⟨_, _, [], none, none, rfl, rfl, rfl⟩ ?_ ?_
  · rintro i σ _ hi ⟨rest, size, xs, k, mx, rfl, hl, rfl⟩
    have hsz : (xs.map V.int).length < sizeLine := small1000 (by rw [List.length_map]; omega)
    have app : ∀ y : Int, upd (upd H p (.lst (xs.map V.int))) p (.lst (xs.map V.int ++ [.int y])) = upd H p (.lst ((xs ++ [y]).map V.int)) := fun y => by
      rw [upd_upd, List.map_append]
      rfl
    have two : ∀ r : Int, ∀ (σ' : St) (k mx : Option V) (rest size : Int), σ' = [some (.int z), some (.int (n : Int)), some (.int rest), some (.int size), some (.ref p), k, mx] → ∃ (rest size : Int) (xs' : List Int) (k mx : Option V), σ' = [some (.int z), some (.int (n : Int)), some (.int rest), some (.int size), some (.ref p), k, mx] ∧ xs'.length = i + 1 ∧ upd (upd H p (.lst (xs.map V.int))) p (.lst (xs.map V.int ++ [.int r])) = upd H p (.lst (xs'.map V.int)) := fun r σ' k mx rest size e =>
      ⟨rest, size, xs ++ [r], k, mx, e, by rw [List.length_append, hl]; rfl, app r⟩
    walk_at "rd"
    refine r_ite (fun c1 => ?_) (fun c1 => ?_)
    · walk_at "rd"
      refine r_ite (fun c2 => ?_) (fun c2 => ?_)
      · walk_at "rd"
        refine ⟨tyL upd_same, ?_⟩
        walk_at "rd"
        refine r_app upd_same hsz ?_
        walk_at "rd"
        exact two _ _ _ _ _ _ rfl
      · walk_at "rd"
        refine r_I (.inl ⟨by omega, by omega⟩) ?_
        walk_at "rd"
        refine ⟨tyL upd_same, ?_⟩
        walk_at "rd"
        refine r_app upd_same hsz ?_
        walk_at "rd"
        exact two _ _ _ _ _ _ rfl
    · walk_at "rd"
      refine r_I (.inl ⟨by omega, by omega⟩) ?_
      walk_at "rd"
      refine ⟨tyL upd_same, ?_⟩
      walk_at "rd"
      refine r_app upd_same hsz ?_
      walk_at "rd"
      exact two _ _ _ _ _ _ rfl
  · rintro σ _ ⟨rest, size, xs, k, mx, rfl, hl, rfl⟩
    walk_at "rd"
    exact h p xs hp (by omega)
theorem ok__law_next (F : FunD K "_law_next" "_law_next" (defArgs s__law_next) (defBody s__law_next) (defScope s__law_next) [] [] (glAd "_law_next" K) fd) (m : mg "_law_next" = some (.ref (glAd "_law_next" K))) (nb : Nm K mg) : Cal P w K mg base 1 "_law_next" (sp__law_next K) [] := by
  refine calD F m sc__law_next (fun _ _ _ _ _ _ us hl => match us, hl with | [_, _], _ => rfl) len2 (fun cdv A outer s H vs Q E hr h => ⟨_, (pss_cons (ps_set (i := 2) sc__law_next.nd rfl (Or.inl rfl) (pe_ix ix_list (pv 0) pe_int (fun _ _ => rfl)))
    (pss_cons (ps_asg (pe_op op_add (pv 2) pe_int) (pg_sub (pv 0) pe_int set_list))
    (pss_one (ps_ret (pe_op op_mod (pe_callTy call_int1 (by rfl) nb.int (by decide +kernel) (pa_cons (pe_op op_add (pe_ix ix_list (pe_ix ix_list (pv 0) pe_int (fun _ _ => rfl)) (pe_op op_mod (pe_callTy call_int1 (by rfl) nb.int (by decide +kernel) (pa_cons (pv 2) pa_nil)) pe_int) (fun _ _ => rfl)) (pe_op op_mul pe_int (pe_op op_fdiv (pv 2) pe_int))) pa_nil)) (pv 1)))))), ?_⟩)
  obtain ⟨_, _, rfl, S, l, mm, rfl, rfl, h0, L, h⟩ := h
  obtain ⟨L0, k, f5, e⟩ := L
  have L : LB K S l H := ⟨L0, k, f5, e⟩
  walk_at "rd"
  refine r_ixL (SqL.of e) rfl ?_
  walk_at "rd"
  refine r_setL e rfl ?_
  walk_at "rd"
  have L2 := L.put (k + 1) l f5
  obtain ⟨v, _, ev⟩ := atI_ints (ns := S.nums) (k := k % 120) (by omega) (by rw [L0.len]; omega)
  refine r_ixL (SqL.of upd_same) rfl ?_
  walk_at "rd"
  refine r_ixL (SqL.of L2.ls.nm) ev ?_
  walk_at "rd"
  refine r_I h0 ?_
  exact h _ _ (Int.emod_nonneg _ (by omega)) (Int.emod_lt_of_pos _ h0) L2 (Keep.put _)
theorem ok__law_state (F : FunD K "_law_state" "_law_state" (defArgs s__law_state) (defBody s__law_state) (defScope s__law_state) [] [] (glAd "_law_state" K) fd) (m : mg "_law_state" = some (.ref (glAd "_law_state" K))) (nb : Nm K mg) (c__law_cell : Cal P w K mg base 1 "_law_cell" (sp__law_cell K) []) (c__law_numbers : Cal P w K mg base 1 "_law_numbers" sp__law_numbers []) : Cal P w K mg base 2 "_law_state" (sp__law_state K) [] := by
  refine calD F m sc__law_state (fun _ _ _ _ _ _ us hl => match us, hl with | [_, _], _ => rfl) len2 (fun cdv A outer s H vs Q E hr h => ⟨_, (pss_cons (ps_set (i := 2) sc__law_state.nd rfl (Or.inl rfl) (pe_lst pa_nil))
    (pss_cons (ps_setLc (i := 4) (own := [("k", 3)]) (g := gName 3) (tt := tYes) rfl sc__law_state.nd rfl rfl (sw_true rfl rfl rfl (by decide +kernel)) (pi_range1 rfl nb.range (pa_cons pe_int pa_nil)) (blkOk_by (N := ["script", "left", "numbers", "k", "parted"]) (sc := defScope s__law_state) (by decide +kernel)) (fun _ _ _ _ _ => pg_name (i := 3) sc__law_state.nd rfl (Or.inl rfl)) (fun _ _ _ _ _ => pts_nil) (fun _ _ _ _ _ => (pe_c c__law_numbers hr (by decide) rfl (pa_cons (pe_c c__law_cell hr (by decide) rfl (pa_cons (pv 0) (pa_cons (pv 3) pa_nil))) (pa_cons pe_int pa_nil)))))
    (pss_cons (ps_for PassesOwn.never rfl (pi_range1 rfl nb.range (pa_cons pe_int pa_nil)) (pg_name (i := 3) sc__law_state.nd rfl (Or.inl rfl))
    (pss_cons (ps_expr (pe_bm PySem.F.plainAttrs_list PySem.F.slot_list_append PySem.F.type_list_append mt_append (pv 2) (pa_cons (pe_ix ix_list (pe_ix ix_list (pv 4) pe_int (fun _ _ => rfl)) (pv 3) (fun _ _ => rfl)) pa_nil)))
    (pss_cons (ps_expr (pe_bm PySem.F.plainAttrs_list PySem.F.slot_list_append PySem.F.type_list_append mt_append (pv 2) (pa_cons (pe_ix ix_list (pe_ix ix_list (pv 4) pe_int (fun _ _ => rfl)) (pv 3) (fun _ _ => rfl)) pa_nil)))
    (pss_one (ps_expr (pe_bm PySem.F.plainAttrs_list PySem.F.slot_list_append PySem.F.type_list_append mt_append (pv 2) (pa_cons (pe_ix ix_list (pe_ix ix_list (pv 4) pe_int (fun _ _ => rfl)) (pv 3) (fun _ _ => rfl)) pa_nil)))))))
    (pss_one (ps_ret (pe_lst (pa_cons (pv 2) (pa_cons pe_int (pa_cons (pv 1) (pa_cons (pv 0) (pa_cons pe_int pa_nil))))))))))), ?_⟩)
  obtain ⟨_, _, rfl, sl, ns, l, rfl, rfl, hs, h⟩ := h
  walk_at "rd"
  refine ⟨Nat.zero_le _, fun p hp => ?_⟩
  walk_at "rd"
  refine r_lcR 3 (by decide) (fun D hD => ?_) (fun R hR => hR)
  have sp0 := same_upd hp (.lst [])
  have pD : p ≠ D := fun e => by
    rw [← e, upd_same] at hD
    cases hD
  refine lc_range (fun i H' => ∃ ps : List Addr, H' D = some (.lst (ps.map V.ref)) ∧ ps.length = i ∧ (∀ q ∈ ps, q ≠ D ∧ ∃ xs : List Int, H' q = some (.lst (xs.map V.int)) ∧ xs.length = 40) ∧ Same (upd H p (.lst [])) H') ⟨[], upd_same, rfl, fun q hq => (by cases hq), same_upd hD _⟩ ?_ ?_
  · rintro i H' hi ⟨ps, e1, e2, e3, e4⟩
    walk_at "rd"
    refine ⟨rfl, ?_⟩
    walk_at "rd"
    have hs' : SqL K H' sl (ns.map V.int) := e4.seq (sp0.seq hs)
    refine ⟨_, _, rfl, sl, ns, _, rfl, rfl, hs', by omega, fun z => ?_⟩
    walk_at "rd"
    refine ⟨_, _, rfl, z, 40, rfl, rfl, by decide, fun q xs hq hx => ?_⟩
    have Dq : D ≠ q := ne_of_none e1 hq
    refine ⟨_, (upd_ne Dq).trans e1, small1000 (by rw [List.length_map]; omega), ps ++ [q], ?_, by rw [List.length_append, e2]; rfl, ?_, ?_⟩
    · rw [upd_same, List.map_append]
      rfl
    · intro q' hq'
      rcases List.mem_append.mp hq' with h1 | h1
      · obtain ⟨n1, xs', x1, x2⟩ := e3 q' h1
        exact ⟨n1, xs', by rw [upd_ne n1, upd_ne (ne_of_none x1 hq)]; exact x1, x2⟩
      · have e5 : q' = q := by simpa using h1
        subst e5
        exact ⟨Ne.symm Dq, xs, by rw [upd_ne (Ne.symm Dq), upd_same], hx⟩
    · intro b o hb
      have hb2 := e4 b o hb
      rw [upd_ne (ne_of_none hb hD), upd_ne (ne_of_none hb2 hq)]
      exact hb2
  · rintro H' ⟨ps, e1, e2, e3, e4⟩
    walk_at "rd"
    obtain ⟨p0, p1, p2, rfl⟩ : ∃ p0 p1 p2, ps = [p0, p1, p2] := match ps, e2 with | [a, b, c], _ => ⟨a, b, c, rfl⟩
    obtain ⟨_, x0, y0, z0⟩ := e3 p0 (by simp)
    obtain ⟨_, x1, y1, z1⟩ := e3 p1 (by simp)
    obtain ⟨_, x2, y2, z2⟩ := e3 p2 (by simp)
    have hp' : H' p = some (.lst []) := e4 _ _ upd_same
    have ne0 : ∀ {q : Addr} {xs : List Int}, H' q = some (.lst (xs.map V.int)) → xs.length = 40 → q ≠ p := fun {q xs} h1 h2 h3 => by
      rw [h3, hp'] at h1
      injection h1 with h1
      injection h1 with h1
      have h4 := congrArg List.length h1
      rw [List.length_map, h2] at h4
      cases h4
    have n0 := ne0 y0 z0
    have n1 := ne0 y1 z1
    have n2 := ne0 y2 z2
    have nD : D ≠ p := Ne.symm pD
    have fit : ∀ (xs : List Int) (i : Nat), xs.length = 40 → (i : Int) < 40 → ∃ v, atI (xs.map V.int) (i : Int) = some (.int v) := fun xs i h1 h2 => by
      obtain ⟨v, _, e⟩ := atI_ints (ns := xs) (k := (i : Int)) (by omega) (by omega)
      exact ⟨v, e⟩
    refine r_turns (by decide) (by decide) (fun i σ H2 => ∃ (zs : List Int) (kk : Option V), σ = [some (.ref sl), some (.int l), some (.ref p), kk, some (.ref D)] ∧ zs.length = 3 * i ∧ H2 = upd H' p (.lst (zs.map V.int))) ⟨[], none, rfl, rfl, ?_⟩ ?_ ?_
    · funext b
      by_cases c : b = p
      · subst c
        rw [upd_same, hp']
        rfl
      · rw [upd_ne c]
    · rintro i σ _ hi ⟨zs, kk, rfl, hz, rfl⟩
      obtain ⟨v0, a0⟩ := fit x0 i z0 hi
      obtain ⟨v1, a1⟩ := fit x1 i z1 hi
      obtain ⟨v2, a2⟩ := fit x2 i z2 hi
      walk_at "rd"
      refine ⟨tyL upd_same, ?_⟩
      walk_at "rd"
      refine r_ixL (SqL.of ((upd_ne nD).trans e1)) rfl ?_
      walk_at "rd"
      refine r_ixL (SqL.of ((upd_ne n0).trans y0)) a0 ?_
      walk_at "rd"
      refine r_app upd_same (small1000 (by rw [List.length_map]; omega)) ?_
      rw [upd_upd]
      walk_at "rd"
      refine ⟨tyL upd_same, ?_⟩
      walk_at "rd"
      refine r_ixL (SqL.of ((upd_ne nD).trans e1)) rfl ?_
      walk_at "rd"
      refine r_ixL (SqL.of ((upd_ne n1).trans y1)) a1 ?_
      walk_at "rd"
      refine r_app upd_same (small1000 (by rw [List.length_append, List.length_map]; show zs.length + 1 ≤ 1000; omega)) ?_
      rw [upd_upd]
      walk_at "rd"
      refine ⟨tyL upd_same, ?_⟩
      walk_at "rd"
      refine r_ixL (SqL.of ((upd_ne nD).trans e1)) rfl ?_
      walk_at "rd"
      refine r_ixL (SqL.of ((upd_ne n2).trans y2)) a2 ?_
      walk_at "rd"
      refine r_app upd_same (small1000 (by rw [List.length_append, List.length_append, List.length_map]; show zs.length + 1 + 1 ≤ 1000; omega)) ?_
      rw [upd_upd]
      exact ⟨zs ++ [v0] ++ [v1] ++ [v2], _, rfl, by simp [hz]; omega, by simp⟩
    · rintro σ _ ⟨zs, kk, rfl, hz, rfl⟩
      walk_at "rd"
      refine ⟨(by show 5 ≤ sizeLine; decide), fun a ha => ?_⟩
      have sa := same_upd ha (.lst [.ref p, .int 0, .int l, .ref sl, .int 3])
      have pa : p ≠ a := ne_of_none upd_same ha
      have all : Same H (upd H' p (.lst (zs.map V.int))) := fun b o hb => by
        rw [upd_ne (ne_of_none hb hp)]
        exact e4 _ _ (sp0 _ _ hb)
      have hsl : SqL K H sl (ns.map V.int) := hs
      refine h ⟨a, p, sl, zs, ns⟩ _ rfl rfl ⟨⟨⟨0, l, 3, upd_same⟩, (upd_ne pa).trans upd_same, by rw [hz]; rfl, pa, sa.seq (all.seq hs)⟩, 0, 3, upd_same⟩ (all.trans sa) (all.free ha)
end

/-! ### draws that keep the budget -/
section
variable {K : PySem.W.Frag} {S : SC} {l : Int} {σ : St} {H : Hp} {Q : VK} {E : XK}
theorem b_next {m : Int} (L : LB K S l H) (hm : 0 < m) (h : ∀ (r : Int) (H' : Hp), 0 ≤ r → r < m → LB K S l H' → Keep S H H' → Q (.int r) H') : sp__law_next K ([.ref S.a, .int m] ++ []) H Q E := ⟨_, _, rfl, S, l, m, rfl, rfl, hm, L, h⟩
/-- [x, y, ..][_law_next(state, n)] -/
theorem b_pick {xs : List V} {n : Int} {i : Nat} (L : LB K S l H) (e : σ[i]? = some (some (.ref S.a))) (hl : xs.length ≤ sizeLine) (hn : 0 < n) (hx : (xs.length : Int) = n)
    (h : ∀ (v : V) (H' : Hp), v ∈ xs → LB K S l H' → Keep S H H' → Q v H') :
    xs.length ≤ sizeLine ∧ ∀ p, H p = none → tCall (sp__law_next K) [] E (tCons (tVar i) (tCons (tC (.int n)) tNil)) σ (upd H p (.lst xs)) fun y H2 => rIxL K (.ref p) y H2 Q := by
  refine ⟨hl, fun p hp => ⟨_, e, ?_⟩⟩
  show sp__law_next K ([.ref S.a, .int n] ++ []) (upd H p (.lst xs)) (fun y H2 => rIxL K (.ref p) y H2 Q) E
  refine b_next (L.new hp _) hn fun r H' h0 h1 L' k => ?_
  have hr : r.toNat < xs.length := by omega
  have er : r = ((r.toNat : Nat) : Int) := by omega
  refine ⟨p, xs, r, xs[r.toNat], rfl, rfl, SqL.of (k _ _ (L.ne_free hp) upd_same), ?_, ?_⟩
  · have q := atI_nat (xs := xs) (j := r.toNat) (v := xs[r.toNat]) (List.getElem?_eq_getElem hr)
    rw [← er] at q
    exact q
  · exact h _ _ (List.getElem_mem hr) L' ((Keep.of (same_upd hp _)).trans k)
/-- the same, all of them numbers from lo to hi -/
theorem b_pickI {xs : List V} {n : Int} {i : Nat} (lo hi : Int) (L : LB K S l H) (e : σ[i]? = some (some (.ref S.a))) (hl : xs.length ≤ sizeLine) (hn : 0 < n) (hx : (xs.length : Int) = n) (hz : ∀ v ∈ xs, ∃ z, v = V.int z ∧ lo ≤ z ∧ z ≤ hi)
    (h : ∀ (z : Int) (H' : Hp), lo ≤ z → z ≤ hi → V.int z ∈ xs → LB K S l H' → Keep S H H' → Q (.int z) H') :
    xs.length ≤ sizeLine ∧ ∀ p, H p = none → tCall (sp__law_next K) [] E (tCons (tVar i) (tCons (tC (.int n)) tNil)) σ (upd H p (.lst xs)) fun y H2 => rIxL K (.ref p) y H2 Q :=
  b_pick L e hl hn hx fun v H' hv L' k => by
    obtain ⟨z, rfl, h1, h2⟩ := hz v hv
    exact h z H' h1 h2 hv L' k
theorem bl_nil {p : V → Prop} : ∀ v ∈ ([] : List V), p v := fun v hv => by cases hv
theorem bl_cons {p : V → Prop} {x : V} {xs : List V} (h : p x) (t : ∀ v ∈ xs, p v) : ∀ v ∈ x :: xs, p v := fun v hv => by
  rcases List.mem_cons.mp hv with e | e
  · rw [e]
    exact h
  · exact t v e
theorem b_new {o : HO} {p : Addr} (L : LB K S l H) (hp : H p = none) : ∃ H', upd H p o = H' ∧ LB K S l H' ∧ Same H H' ∧ H' p = some o ∧ p ≠ S.a := ⟨_, rfl, L.new hp o, same_upd hp o, upd_same, L.ne_free hp⟩
end

/-! ### slices, comprehensions, objects: rules of general use -/
section
variable {σ : St} {H : Hp} {n b c : St → Hp → Prop} {r : VK} {Q : VK} {K : Frg} {a C dx : Addr} {fs : List (Str × V)} {f : Str} {v : V}
theorem r_fsetK {R : Hp → Prop} {fs' : List (Str × V)} (h : H a = some (.ins C dx fs)) (cl : Cls K C) (na : NoAttr K C f) (hl : fs.length < 1000) (e : putF f v fs = fs') (q : ∀ H', H' a = some (.ins C dx fs') → (∀ b, b ≠ a → H' b = H b) → R H') :
    ∃ a' C dx fs, V.ref a = .ref a' ∧ H a' = some (.ins C dx fs) ∧ Cls K C ∧ NoAttr K C f ∧ fs.length < 1000 ∧ R (upd H a' (.ins C dx (putF f v fs))) := r_fset h cl na hl e (q _ upd_same fun _ hb => upd_ne hb)
theorem r_appK {p : Addr} {xs : List V} {y : V} (h : H p = some (.lst xs)) (hl : xs.length < sizeLine) (q : ∀ H', H' p = some (.lst (xs ++ [y])) → (∀ b, b ≠ p → H' b = H b) → Q .non H') : rAppend (.ref p) [y] H Q := r_app h hl (q _ upd_same fun _ hb => upd_ne hb)
theorem r_gfldV {R : St → Hp → Prop} {fs' : List (Str × V)} {k : Nat} (ek : σ[k]? = some (some (.ref a))) (h : H a = some (.ins C dx fs)) (cl : Cls K C) (na : NoAttr K C f) (hl : fs.length < 1000) (e : putF f v fs = fs') (q : ∀ H', H' a = some (.ins C dx fs') → (∀ b, b ≠ a → H' b = H b) → R σ H') : gFld K (tVar k) f v σ H R :=
  ⟨_, ek, a, C, dx, fs, rfl, h, cl, na, hl, by rw [e]; exact q _ upd_same fun _ hb => upd_ne hb⟩
end
def But (a l : Addr) (H H' : Hp) : Prop := ∀ b u, b ≠ a → b ≠ l → H b = some u → H' b = some u
theorem map_snoc (ps : List Int) (x : Int) : ps.map V.int ++ [V.int x] = (ps ++ [x]).map V.int := by simp
theorem dp_tup {K : Frg} {H : Hp} {v : V} {ds : List PyData} (h : Dp K H v (.tuple ds)) : ∃ a xs, v = .ref a ∧ SqT K H a xs ∧ DpAll K H xs ds := by
  cases h
  exact ⟨_, _, rfl, by assumption, by assumption⟩
theorem dp_get {K : Frg} {H : Hp} : ∀ {xs : List V} {ds : List PyData} {i : Nat} {x : V}, DpAll K H xs ds → xs[i]? = some x → ∃ d, ds[i]? = some d ∧ Dp K H x d
  | [], _, _, _, _, e => by cases e
  | x :: xs, _, 0, _, .cons h t, e => by
    cases e
    exact ⟨_, rfl, h⟩
  | x :: xs, _, i + 1, _, .cons h t, e => by
    obtain ⟨d, e1, h1⟩ := dp_get (i := i) t e
    exact ⟨d, e1, h1⟩
theorem dp_len {K : Frg} {H : Hp} : ∀ {xs : List V} {ds : List PyData}, DpAll K H xs ds → xs.length = ds.length
  | [], _, .nil => rfl
  | _ :: _, _, .cons _ t => congrArg (· + 1) (dp_len t)
theorem dp_ints {K : Frg} {H : Hp} : ∀ {xs : List V} (ns : List Int), DpAll K H xs (ns.map PyData.int) → xs = ns.map V.int
  | _, [], h => by
    cases h
    rfl
  | _, n :: ns, h => by
    cases h with
    | cons h t =>
      cases h
      rw [dp_ints ns t]
      rfl
theorem dpa_ints {K : Frg} {H : Hp} : ∀ (ns : List Int), DpAll K H (ns.map V.int) (ns.map PyData.int)
  | [] => .nil
  | n :: ns => .cons (.int n) (dpa_ints ns)
theorem shaped_ints (ns : List Int) : SeqAt.shaped (.list (ns.map PyData.int)) = true := PySem.W.ke_shaped_ints ns
theorem ints_get {cs : List Int} {i : Nat} {x : V} (e : (cs.map V.int)[i]? = some x) : ∃ c, cs[i]? = some c ∧ x = .int c ∧ cs.take (i + 1) = cs.take i ++ [c] := by
  rw [List.getElem?_map] at e
  obtain ⟨c, h, rfl⟩ := Option.map_eq_some_iff.mp e
  refine ⟨c, h, rfl, ?_⟩
  rw [List.take_succ, h]
  rfl
theorem ints_step {cs : List Int} {i : Nat} {c : Int} (h : cs[i]? = some c) : cs.take (i + 1) = cs.take i ++ [c] := by
  rw [List.take_succ, h]
  rfl
/-- the state stays when a place changes that was free at an earlier heap -/
theorem LS.away {K : PySem.W.Frag} {S : SC} {H1 H' : Hp} (L1 : LS K S H1) {D : Addr} (hD : H1 D = none) (L : LS K S H') (o : HO) : LS K S (upd H' D o) := by
  obtain ⟨⟨k, l, f, e⟩, h2, h3, h4, h5⟩ := L1
  obtain ⟨⟨k', l', f', e'⟩, h2', _, _, h5'⟩ := L
  have n : ∀ {b : Addr} {u : HO}, H1 b = some u → b ≠ D := fun h z => by
    rw [z, hD] at h
    cases h
  refine ⟨⟨k', l', f', (upd_ne (n e)).trans e'⟩, (upd_ne (n h2)).trans h2', h3, h4, ?_⟩
  rcases h5 with (h | ⟨u, h⟩) | h
  · exact seq_upd h5' (n h)
  · exact seq_upd h5' (n h)
  · exact .inr h
theorem r_sl {σ : St} {H : Hp} {Q : VK} {r : V → Option Int → Option Int → Hp → VK → Prop} {te : TE} {tl th : TO} (h : te σ H fun x H1 => tl σ H1 fun l H2 => th σ H2 fun u H3 => r x l u H3 Q) : tSl r te tl th σ H Q := h
theorem r_part {σ : St} {H : Hp} {t : TE} {Q : Option Int → Hp → Prop} (h : t σ H fun x H1 => ∃ i, x = .int i ∧ Q (some i) H1) : tPart t σ H Q := h
theorem r_some {i : Int} {Q : Option Int → Prop} (h : Q (some i)) : ∃ j, V.int i = .int j ∧ Q (some j) := ⟨i, rfl, h⟩
theorem r_nopart {σ : St} {H : Hp} {Q : Option Int → Hp → Prop} (h : Q none H) : tNoPart σ H Q := h
theorem r_slL {K : PySem.W.Frag} {p : Addr} {xs : List V} {lo hi : Option Int} {H : Hp} {Q : VK} (hs : SqL K H p xs) (h : ∀ q, H q = none → Q (.ref q) (upd H q (.lst (cutV xs lo hi)))) : rSlL K (.ref p) lo hi H Q := ⟨p, xs, rfl, hs, h⟩
theorem cut_tl {v : V} {xs : List V} : cutV (v :: xs) (some 1) none = xs := by
  have e : HT.sIx (v :: xs).length 0 (some 1) = 1 := (HT.sIx_nat (v :: xs).length 0 1).trans (by show min 1 (xs.length + 1) = 1; omega)
  unfold cutV
  rw [e, HT.sIx_none]
  show xs.take (xs.length + 1 - 1) = xs
  simp
theorem r_min2 {σ : St} {H : Hp} {Q : VK} {K : PySem.W.Frag} {p : Addr} {x y : Int} (hs : H p = some (.lst [.int x, .int y])) (h : Q (.int (min x y)) H) : rMin K [.ref p] H Q := by
  refine ⟨p, [x, y], rfl, SqL.of hs, by show 0 < 2; decide, fun m hm hle => ?_⟩
  have h1 := hle x (by simp)
  have h2 := hle y (by simp)
  have e : m = min x y := by
    rcases List.mem_cons.mp hm with e | e
    · omega
    · rcases List.mem_cons.mp e with e | e
      · omega
      · cases e
  rw [e]
  exact h
theorem at0 {v : V} {xs : List V} : atI (v :: xs) 0 = some v := atI_nat (xs := v :: xs) (j := 0) rfl
theorem cut_ints (zs : List Int) (lo hi : Option Int) : ∃ ws : List Int, cutV (zs.map V.int) lo hi = ws.map V.int ∧ (∀ x ∈ ws, x ∈ zs) ∧ ws.length ≤ zs.length := by
  refine ⟨(zs.drop (HT.sIx (zs.map V.int).length 0 lo)).take (HT.sIx (zs.map V.int).length (zs.map V.int).length hi - HT.sIx (zs.map V.int).length 0 lo), ?_, ?_, ?_⟩
  · unfold cutV
    rw [List.map_take, List.map_drop]
  · intro x hx
    exact List.mem_of_mem_drop (List.mem_of_mem_take hx)
  · rw [List.length_take, List.length_drop]
    omega
/-- a slice of a row of numbers in a slot -/
theorem d_cut {σ : St} {H : Hp} {Q : VK} {K : PySem.W.Frag} {k : Nat} {o : Addr} {zs : List Int} {tl th : TO} (lo hi : Option Int) (e : σ[k]? = some (some (.ref o))) (g : H o = some (.lst (zs.map V.int))) (hl : ∀ R : Option Int → Hp → Prop, R lo H → tl σ H R) (hh : ∀ R : Option Int → Hp → Prop, R hi H → th σ H R)
    (h : ∀ (q : Addr) (ws : List Int), H q = none → (∀ x ∈ ws, x ∈ zs) → ws.length ≤ zs.length → Q (.ref q) (upd H q (.lst (ws.map V.int)))) : tSl (rSlL K) (tVar k) tl th σ H Q := by
  refine r_sl ⟨_, e, hl _ (hh _ ?_)⟩
  obtain ⟨ws, e1, e2, e3⟩ := cut_ints zs lo hi
  refine r_slL (SqL.of g) fun q nq => ?_
  rw [e1]
  exact h q ws nq e2 e3
theorem cat_ints (a b : List Int) : a.map V.int ++ b.map V.int = (a ++ b).map V.int := by simp
theorem LS.but {K : PySem.W.Frag} {S : SC} {H1 H H' : Hp} (L1 : LS K S H1) {m l : Addr} (hm : H1 m = none) (hl : H1 l = none) (L : LS K S H) (b : But m l H H') : LS K S H' := by
  obtain ⟨⟨k, l', f, e⟩, h2, h3, h4, h5⟩ := L1
  obtain ⟨⟨k', l'', f', e'⟩, h2', _, _, h5'⟩ := L
  have n1 : ∀ {b : Addr} {u : HO}, H1 b = some u → b ≠ m := fun h z => by
    rw [z, hm] at h
    cases h
  have n2 : ∀ {b : Addr} {u : HO}, H1 b = some u → b ≠ l := fun h z => by
    rw [z, hl] at h
    cases h
  refine ⟨⟨k', l'', f', b _ _ (n1 e) (n2 e) e'⟩, b _ _ (n1 h2) (n2 h2) h2', h3, h4, ?_⟩
  have go : S.sl ≠ m → S.sl ≠ l → SqL K H' S.sl (S.ns.map V.int) := fun q1 q2 => by
    rcases h5' with (h | ⟨u, h⟩) | h
    · exact .inl (.inl (b _ _ q1 q2 h))
    · exact .inl (.inr ⟨u, b _ _ q1 q2 h⟩)
    · exact .inr h
  rcases h5 with (h | ⟨u, h⟩) | h
  · exact go (n1 h) (n2 h)
  · exact go (n1 h) (n2 h)
  · exact .inr h
theorem But.refl (a l : Addr) (H : Hp) : But a l H H := fun _ _ _ _ z => z
theorem But.trans {a l : Addr} {H H1 H2 : Hp} (x : But a l H H1) (y : But a l H1 H2) : But a l H H2 := fun b u p q z => y b u p q (x b u p q z)
theorem But.same {a l : Addr} {H H1 : Hp} (x : Same H H1) : But a l H H1 := fun b u _ _ z => x b u z
theorem cut_to {zs : List Int} {d : Nat} (h : d ≤ zs.length) : cutV (zs.map V.int) none (some (d : Nat)) = (zs.take d).map V.int := by
  unfold cutV
  rw [HT.sIx_nat, HT.sIx_none, List.length_map, Nat.min_eq_left h, List.drop_zero, Nat.sub_zero, List.map_take]
theorem r_lcL {σ : St} {H : Hp} {Q : VK} {K : PySem.W.Frag} {tl : TE} {g : TG} {tt : TT} {te : TE} {vs : List Nat} (h : tl σ H fun x H1 => ∃ a, x = .ref a ∧ (∃ xs, SqL K H1 a xs) ∧ ∀ D, H1 D = none → ∃ W : Nat → Nat → Hp → Prop, (∃ m, W 0 m (upd H1 D (.lst []))) ∧ ∀ i m H, W i m H →
  ((Itl K a).stop i H ∧ Q (.ref D) H) ∨ ((Itl K a).go i H ∧ ∃ Nx : Hp → Prop, (∀ H', Nx H' → ∃ m', m' < m ∧ W (i + 1) m' H') ∧ ∀ x H', (Itl K a).yld i H x H' → g x (wipe σ vs) H' fun σ2 H2 => wipe σ2 vs = wipe σ vs ∧ tt σ2 H2 fun b H3 =>
    if b = true then te σ2 H3 fun y H4 => ∃ acc, H4 D = some (.lst acc) ∧ acc.length < sizeLine ∧ Nx (upd H4 D (.lst (acc ++ [y]))) else Nx H3)) : tLc (iList K tl) g tt te vs σ H Q := h
/-- a for over range(j), what stands behind a break known -/
theorem r_turnsB {σ : St} {H : Hp} {n : St → Hp → Prop} {r : VK} {j : Int} {g : TG} {tb : TS} (h1 : -(2 ^ 62) ≤ j) (h2 : j < 2 ^ 62) (M : St → Hp → Prop) (hM : ∀ σ H, M σ H → n σ H) (Pv : Nat → St → Hp → Prop) (h0 : Pv 0 σ H)
    (hs : (∀ σ H, M σ H → n σ H) → ∀ (i : Nat) σ H, (i : Int) < j → Pv i σ H → g (.int (i : Int)) σ H fun σ2 H2 => tb ⟨Pv (i + 1), r, n, Pv (i + 1)⟩ σ2 H2) (hd : ∀ σ H, Pv j.toNat σ H → M σ H) :
    -(2 ^ 62) ≤ j ∧ j < 2 ^ 62 ∧ ∃ W : Nat → Nat → St → Hp → Prop, (∃ m, W 0 m σ H) ∧ ∀ i m σ H, W i m σ H →
    ((Itr 0 j.toNat).stop i H ∧ n σ H) ∨ ((Itr 0 j.toNat).go i H ∧ ∃ N : St → Hp → Prop, (∀ σ' H', N σ' H' → ∃ m', m' < m ∧ W (i + 1) m' σ' H') ∧ ∀ x H', (Itr 0 j.toNat).yld i H x H' → g x σ H' fun σ2 H2 => tb ⟨N, r, n, N⟩ σ2 H2) :=
  r_turns h1 h2 Pv h0 (hs hM) fun σ H p => hM σ H (hd σ H p)
theorem at_end (a : List Int) (v : Int) : atI ((a ++ [v]).map V.int) ((((a ++ [v]).length : Nat) : Int) - 1) = some (.int v) := by
  rw [show (((a ++ [v]).length : Nat) : Int) - 1 = ((a.length : Nat) : Int) by rw [List.length_append]; show ((a.length + 1 : Nat) : Int) - 1 = _; omega]
  refine atI_nat ?_
  rw [List.getElem?_map, List.getElem?_append_right (Nat.le_refl _), Nat.sub_self]
  rfl
theorem r_lc0 {σ : St} {H : Hp} {Q : VK} {ta : TA} {g : TG} {tt : TT} {te : TE} {vs : List Nat} (h : ta σ H fun ws H1 => ∃ j : Int, ws = [.int j] ∧ -(2 ^ 62) ≤ j ∧ j < 2 ^ 62 ∧ ∀ D, H1 D = none → ∃ W : Nat → Nat → Hp → Prop, (∃ m, W 0 m (upd H1 D (.lst []))) ∧ ∀ i m H, W i m H →
  ((Itr 0 j.toNat).stop i H ∧ Q (.ref D) H) ∨ ((Itr 0 j.toNat).go i H ∧ ∃ Nx : Hp → Prop, (∀ H', Nx H' → ∃ m', m' < m ∧ W (i + 1) m' H') ∧ ∀ x H', (Itr 0 j.toNat).yld i H x H' → g x (wipe σ vs) H' fun σ2 H2 => wipe σ2 vs = wipe σ vs ∧ tt σ2 H2 fun b H3 =>
    if b = true then te σ2 H3 fun y H4 => ∃ acc, H4 D = some (.lst acc) ∧ acc.length < sizeLine ∧ Nx (upd H4 D (.lst (acc ++ [y]))) else Nx H3)) : tLc (iRng1 ta) g tt te vs σ H Q := h

/-! ### more rules of general use -/
theorem r_lcT {σ : St} {H : Hp} {Q : VK} {K : PySem.W.Frag} {tl : TE} {g : TG} {tt : TT} {te : TE} {vs : List Nat} (h : tl σ H fun x H1 => ∃ a, x = .ref a ∧ (∃ xs, SqT K H1 a xs) ∧ ∀ D, H1 D = none → ∃ W : Nat → Nat → Hp → Prop, (∃ m, W 0 m (upd H1 D (.lst []))) ∧ ∀ i m H, W i m H →
  ((Itt K a).stop i H ∧ Q (.ref D) H) ∨ ((Itt K a).go i H ∧ ∃ Nx : Hp → Prop, (∀ H', Nx H' → ∃ m', m' < m ∧ W (i + 1) m' H') ∧ ∀ x H', (Itt K a).yld i H x H' → g x (wipe σ vs) H' fun σ2 H2 => wipe σ2 vs = wipe σ vs ∧ tt σ2 H2 fun b H3 =>
    if b = true then te σ2 H3 fun y H4 => ∃ acc, H4 D = some (.lst acc) ∧ acc.length < sizeLine ∧ Nx (upd H4 D (.lst (acc ++ [y]))) else Nx H3)) : tLc (iTup K tl) g tt te vs σ H Q := h
theorem r_gunl {σ : St} {H : Hp} {K : PySem.W.Frag} {p : Addr} {xs : List V} {n : Nat} {t : TGs} {R : St → Hp → Prop} (hs : SqL K H p xs) (hl : xs.length = n) (h : t xs σ H R) : gUnl K n t (.ref p) σ H R := ⟨p, xs, rfl, hs, hl, h⟩
theorem cut_from {zs : List Int} {d : Nat} : cutV (zs.map V.int) (some (d : Nat)) none = (zs.drop d).map V.int := by
  unfold cutV
  rw [HT.sIx_nat, HT.sIx_none, List.length_map]
  by_cases h : d ≤ zs.length
  · rw [Nat.min_eq_left h, List.take_of_length_le (by rw [List.length_drop, List.length_map]; omega), List.map_drop]
  · rw [Nat.min_eq_right (by omega), List.drop_of_length_le (by rw [List.length_map]; omega), List.drop_of_length_le (by omega)]
    simp
theorem cut_mid {zs : List Int} {d e : Nat} (h : d ≤ e) : cutV (zs.map V.int) (some (d : Nat)) (some (e : Nat)) = ((zs.drop d).take (e - d)).map V.int := by
  unfold cutV
  rw [HT.sIx_nat, HT.sIx_nat, List.length_map]
  by_cases h1 : e ≤ zs.length
  · rw [Nat.min_eq_left h1, Nat.min_eq_left (by omega), List.map_take, List.map_drop]
  · by_cases h2 : d ≤ zs.length
    · rw [Nat.min_eq_right (by omega), Nat.min_eq_left h2, List.map_take, List.map_drop, List.take_of_length_le (by rw [List.length_drop, List.length_map]; omega), List.take_of_length_le (by rw [List.length_drop, List.length_map]; omega)]
    · rw [Nat.min_eq_right (by omega), Nat.min_eq_right (by omega), Nat.sub_self, List.take_zero, List.drop_of_length_le (l := zs) (by omega)]
      simp
theorem cut_to' {zs : List Int} {d : Nat} : cutV (zs.map V.int) none (some (d : Nat)) = (zs.take d).map V.int := by
  unfold cutV
  rw [HT.sIx_nat, HT.sIx_none, List.length_map, List.drop_zero, Nat.sub_zero, List.map_take]
  by_cases h : d ≤ zs.length
  · rw [Nat.min_eq_left h]
  · rw [Nat.min_eq_right (by omega), List.take_of_length_le (by rw [List.length_map]; omega), List.take_of_length_le (by rw [List.length_map]; omega)]
/-- list + list, both of integers -/
theorem r_catI {a b : Addr} {xs ys : List Int} {H : Hp} {Q : VK} (h1 : H a = some (.lst (xs.map V.int))) (h2 : H b = some (.lst (ys.map V.int))) (hl : xs.length + ys.length ≤ 1000) (h : ∀ p H', H p = none → H' p = some (.lst ((xs ++ ys).map V.int)) → Same H H' → Q (.ref p) H') : rCat (.ref a) (.ref b) H Q :=
  ⟨a, b, _, _, rfl, rfl, h1, h2, Nat.le_of_lt (small1000 (by rw [List.length_map, List.length_map]; exact hl)), fun p hp => h p _ hp (by rw [upd_same, cat_ints]) (same_upd hp _)⟩
theorem r_slI {K : PySem.W.Frag} {p : Addr} {xs ys : List Int} {lo hi : Option Int} {H : Hp} {Q : VK} (hs : H p = some (.lst (xs.map V.int))) (e : cutV (xs.map V.int) lo hi = ys.map V.int) (h : ∀ q H', H q = none → H' q = some (.lst (ys.map V.int)) → Same H H' → Q (.ref q) H') : rSlL K (.ref p) lo hi H Q :=
  r_slL (SqL.of hs) fun q hq => h q _ hq (by rw [upd_same, e]) (same_upd hq _)
/-- a new list or tuple -/
theorem r_nw {o : HO} {R : Addr → Hp → Prop} {c : Prop} {H : Hp} (hc : c) (h : ∀ (p : Addr) (H' : Hp), H p = none → H' p = some o → Same H H' → R p H') : c ∧ ∀ p, H p = none → R p (upd H p o) :=
  ⟨hc, fun p hp => h p _ hp upd_same (same_upd hp o)⟩
theorem r_nwI {zs : List Int} {R : Addr → Hp → Prop} {c : Prop} {H : Hp} (hc : c) (h : ∀ (p : Addr) (H' : Hp), H p = none → H' p = some (.lst (zs.map V.int)) → Same H H' → R p H') : c ∧ ∀ p, H p = none → R p (upd H p (.lst (zs.map V.int))) :=
  r_nw hc h
theorem same_tup {K : PySem.W.Frag} {H H' : Hp} {a : Addr} {xs : List V} (e : Same H H') (h : SqT K H a xs) : SqT K H' a xs := by
  rcases h with (h | ⟨o, h⟩) | h
  · exact .inl (.inl (e _ _ h))
  · exact .inl (.inr ⟨o, e _ _ h⟩)
  · exact .inr h
theorem same_seq {K : PySem.W.Frag} {H H' : Hp} {a : Addr} {xs : List V} (e : Same H H') (h : SqL K H a xs ∨ SqT K H a xs) : SqL K H' a xs ∨ SqT K H' a xs := h.elim (fun q => .inl (e.seq q)) fun q => .inr (same_tup e q)
theorem same_away {H1 H' : Hp} {D : Addr} {o : HO} (s : Same H1 H') (n : H1 D = none) : Same H1 (upd H' D o) := fun b u h => by
  rw [upd_ne (ne_of_none h n)]
  exact s b u h
theorem rep1 (n : Nat) (z : Int) : (List.replicate n [V.int z]).flatten = (List.replicate n z).map V.int := by
  induction n with
  | zero => rfl
  | succ n ih => rw [List.replicate_succ, List.replicate_succ, List.flatten_cons, ih]; rfl
/-- [z] * k -/
theorem r_repI {a : Addr} {z k : Int} {H : Hp} {Q : VK} (h1 : H a = some (.lst [.int z])) (h0 : -1000 ≤ k) (hk : k ≤ 1000) (h : ∀ p H', H p = none → H' p = some (.lst ((List.replicate k.toNat z).map V.int)) → Same H H' → Q (.ref p) H') : rRep (.ref a) (.int k) H Q :=
  ⟨a, k, [.int z], rfl, rfl, h1, by omega, by omega, Nat.le_of_lt (small1000 (by show 1 * _ ≤ 1000; omega)), fun p hp => h p _ hp (by rw [upd_same, rep1]) (same_upd hp _)⟩
def sp0 (f : Hp → VK → XK → Prop) : Sp := fun vs H Q E => vs = [] ∧ f H Q E
theorem len0 {f} (vs : List V) (H : Hp) (Q : VK) (E : XK) (h : sp0 f vs H Q E) : vs.length = 0 := by
  obtain ⟨rfl, _⟩ := h
  rfl
theorem ffl {i : Int} (h1 : -(2 ^ 62) ≤ i) (h2 : i < 2 ^ 62) : Builtin.Range.rangeFitsLong i = true := by
  unfold Builtin.Range.rangeFitsLong
  rw [decide_eq_true (by omega), decide_eq_true (by omega)]
  rfl
theorem rgP (n c k : Nat) (hn : n < 2 ^ 60) (h0 : 0 < c) (hc : c < 1000) (hk : k = (n + (c - 1)) / c) : RgC 0 (n : Nat) (c : Nat) k := by
  have hkn : k ≤ n + (c - 1) := by
    rw [hk]
    exact Nat.div_le_self _ _
  have e : Builtin.Range.rangeSize 0 (n : Nat) (c : Nat) = ((k : Nat) : Int) := by
    unfold Builtin.Range.rangeSize
    rw [if_pos (by omega)]
    by_cases z : n = 0
    · subst z
      rw [if_neg (by omega)]
      have : k = 0 := by rw [hk, Nat.zero_add]; exact Nat.div_eq_of_lt (by omega)
      omega
    · rw [if_pos (by omega)]
      have e1 : ((n : Nat) : Int) - 0 - 1 = ((n - 1 : Nat) : Int) := by omega
      rw [e1]
      have e2 : (n + (c - 1)) / c = (n - 1) / c + 1 := by
        rw [show n + (c - 1) = n - 1 + c by omega, Nat.add_div_right _ h0]
      rw [hk, e2]
      simp
  have hs : Builtin.Range.small 0 (n : Nat) (c : Nat) = true := by
    unfold Builtin.Range.small
    rw [e, ffl (by decide) (by decide), ffl (by omega) (by omega), ffl (by omega) (by omega), ffl (by omega) (by omega), if_pos (by omega), ffl (by omega) (by omega)]
    simp
  exact ⟨by omega, by omega, hs, e⟩
/-- list.extend -/
theorem r_extI {a b : Addr} {xs ys : List Int} {H : Hp} {Q : VK} (h1 : H a = some (.lst (xs.map V.int))) (h2 : H b = some (.lst (ys.map V.int))) (hl : xs.length + ys.length ≤ 4000) (h : ∀ H', H' a = some (.lst ((xs ++ ys).map V.int)) → (∀ b o, b ≠ a → H b = some o → H' b = some o) → (∀ H1, Same H1 H → H1 a = none → Same H1 H') → Q .non H') : rExtend (.ref a) [.ref b] H Q :=
  ⟨a, b, _, _, rfl, rfl, h1, h2, Nat.le_trans (by rw [List.length_map, List.length_map]; exact hl) (by decide : 4000 ≤ sizeLine), h _ (by rw [upd_same, cat_ints]) (fun b o n e => by rw [upd_ne n]; exact e) fun H1 s n => same_away s n⟩
/-- a slice of a row, list or tuple -/
theorem r_slSeq {K : PySem.W.Frag} {p : Addr} {xs : List Int} {d e : Nat} {H : Hp} {Q : VK} (hde : d ≤ e) (hs : SqL K H p (xs.map V.int) ∨ SqT K H p (xs.map V.int)) (h : ∀ q H', SqL K H' q (((xs.drop d).take (e - d)).map V.int) ∨ SqT K H' q (((xs.drop d).take (e - d)).map V.int) → Same H H' → Q (.ref q) H') : rSlL K (.ref p) (some (d : Nat)) (some (e : Nat)) H Q ∨ rSlA K (.ref p) (some (d : Nat)) (some (e : Nat)) H Q := by
  rcases hs with hs | hs
  · refine .inl (r_slL hs fun q hq => h q _ (.inl (SqL.of ?_)) (same_upd hq _))
    rw [upd_same, cut_mid hde]
  · refine .inr ⟨p, _, rfl, hs, fun hw => ?_, fun _ q hq => ?_⟩
    · refine h p H (.inr ?_) (Same.refl H)
      obtain ⟨w1, w2⟩ := hw
      rw [HT.sIx_nat, List.length_map] at w1 w2
      by_cases c : d = 0
      · subst c
        rw [List.drop_zero, List.take_of_length_le (by omega)]
        exact hs
      · have e0 : xs.length = 0 := by omega
        have e1 : xs = [] := List.length_eq_zero_iff.mp e0
        subst e1
        simpa using hs
    · refine h q _ (.inr (SqT.of ?_)) (same_upd hq _)
      rw [upd_same, cut_mid hde]
theorem pe_c0 {X : Cx} {k j : Nat} {x : Str} {sp : Sp} {dvs : List V} {p pos : Pos} (c : Cal X.prog X.w X.K X.mg X.base k x sp dvs) (hr : Room j X.A) (hk : k ≤ j) (hg : Gl X x) (hdb : (x == ("__debug__" : Str)) = false := by decide) : PE X (.Call (.Name x p) [] [] pos) (tCall sp dvs C8.E0 tNil) := by
  obtain ⟨f, fd, ps, ds, F, hm, hk', b, d⟩ := c.ex
  exact pe_call0 F (hr.mono hk) hg hm hk' b d pass0 hdb

theorem eqv_ints (a b : List Int) : PyData.eqv (.list (a.map PyData.int)) (.list (b.map PyData.int)) = decide (a = b) := PySem.W.ked_eqvAll a b
/-- two rows of integers compared -/
theorem r_eqIL {K : PySem.W.Frag} {p q : Addr} {a b : List Int} {H : Hp} {Q : VK} (h1 : SqL K H p (a.map V.int)) (h2 : SqL K H q (b.map V.int)) (h : Q (.bl (decide (a = b))) H) : rEqD K (.ref p) (.ref q) H Q :=
  r_eqD (.lst h1 (dpa_ints _)) (.lst h2 (dpa_ints _)) (shaped_ints _) (shaped_ints _) (by rw [eqv_ints]; exact h)
theorem r_neIL {K : PySem.W.Frag} {p q : Addr} {a b : List Int} {H : Hp} {Q : VK} (h1 : SqL K H p (a.map V.int)) (h2 : SqL K H q (b.map V.int)) (h : Q (.bl (!decide (a = b))) H) : rNeD K (.ref p) (.ref q) H Q :=
  r_neD (.lst h1 (dpa_ints _)) (.lst h2 (dpa_ints _)) (shaped_ints _) (shaped_ints _) (by rw [eqv_ints]; exact h)
/-- a for over a text -/
theorem r_eachS {σ : St} {H : Hp} {n : St → Hp → Prop} {r : VK} {g : TG} {tb : TS} {z : Str} (Pv : Nat → St → Hp → Prop) (h0 : Pv 0 σ H)
    (hs : ∀ (i : Nat) (c : Nat) σ H, z.cps[i]? = some c → Pv i σ H → g (.str ⟨#[c]⟩) σ H fun σ2 H2 => tb ⟨Pv (i + 1), r, n, Pv (i + 1)⟩ σ2 H2) (hd : ∀ σ H, Pv z.cps.size σ H → n σ H) :
    ∃ W : Nat → Nat → St → Hp → Prop, (∃ m, W 0 m σ H) ∧ ∀ i m σ H, W i m σ H →
    ((Its z).stop i H ∧ n σ H) ∨ ((Its z).go i H ∧ ∃ N : St → Hp → Prop, (∀ σ' H', N σ' H' → ∃ m', m' < m ∧ W (i + 1) m' σ' H') ∧ ∀ x H', (Its z).yld i H x H' → g x σ H' fun σ2 H2 => tb ⟨N, r, n, N⟩ σ2 H2) := by
  refine r_each z.cps.size Pv h0 (fun i σ H hi p => ⟨hi, ?_⟩) fun σ H p => ⟨Nat.le_refl _, hd σ H p⟩
  rintro x _ ⟨rfl, c, hc, rfl⟩
  exact hs i c σ _ hc p
theorem r_itS {σ : St} {H : Hp} {te : TE} {R : It → Hp → Prop} (h : te σ H fun v H1 => ∃ x, v = .str x ∧ R (Its x) H1) : iStr te σ H R := h
def rLenK (K : Frg) : List V → Hp → VK → Prop := fun xs H Q => ∃ p ys, xs = [.ref p] ∧ (SqL K H p ys ∨ SqT K H p ys) ∧ Q (.int ys.length) H
def rListK (K : Frg) : List V → Hp → VK → Prop := fun xs H Q => ∃ p ys, xs = [.ref p] ∧ (SqL K H p ys ∨ SqT K H p ys) ∧ ∀ l, H l = none → Q (.ref l) (upd H l (.lst ys))
def rTupleK (K : Frg) : List V → Hp → VK → Prop := fun xs H Q => ∃ p ys, xs = [.ref p] ∧ ((SqL K H p ys ∧ ∀ l, H l = none → Q (.ref l) (upd H l (.tup ys))) ∨ (SqT K H p ys ∧ Q (.ref p) H))
theorem small4k {n : Nat} (h : n ≤ 4000) : n < sizeLine := Nat.lt_of_le_of_lt h (by decide)
theorem r_ifTF {b : Bool} {A B : Prop} (h1 : b = true → A) (h2 : b = false → B) : if b = true then A else B := by
  cases b with
  | true => exact h1 rfl
  | false => exact h2 rfl

/-! ### sorted: pairs of a tuple of integers and something, no two with the same integers -/
section
open PyProof.Rows PySem.W PySem.Calls
theorem lexLt_irr : ∀ a : List Int, HT.lexLt a a = false
  | [] => rfl
  | x :: xs => by
    rw [HT.lexLt_cons, if_pos rfl]
    exact lexLt_irr xs
theorem lexLt_asym : ∀ a b : List Int, HT.lexLt a b = true → HT.lexLt b a = false
  | [], [], h => by cases h
  | [], y :: ys, _ => rfl
  | x :: xs, [], h => by cases h
  | x :: xs, y :: ys, h => by
    rw [HT.lexLt_cons] at h ⊢
    by_cases e : x = y
    · rw [if_pos e] at h
      rw [if_pos e.symm]
      exact lexLt_asym xs ys h
    · rw [if_neg e] at h
      rw [if_neg (fun q => e q.symm)]
      have := of_decide_eq_true h
      exact decide_eq_false (by omega)
theorem lexLt_ntr : ∀ a b c : List Int, HT.lexLt b a = false → HT.lexLt c b = false → HT.lexLt c a = false
  | [], _, [], _, _ => rfl
  | [], _, z :: zs, _, _ => rfl
  | x :: xs, [], _, h, _ => by cases h
  | x :: xs, y :: ys, [], _, h => by cases h
  | x :: xs, y :: ys, z :: zs, h1, h2 => by
    rw [HT.lexLt_cons] at h1 h2 ⊢
    by_cases e1 : y = x
    · subst e1
      rw [if_pos rfl] at h1
      by_cases e2 : z = y
      · subst e2
        rw [if_pos rfl] at h2 ⊢
        exact lexLt_ntr xs ys zs h1 h2
      · rw [if_neg e2] at h2 ⊢
        exact h2
    · rw [if_neg e1] at h1
      have h1 := of_decide_eq_false h1
      by_cases e2 : z = y
      · subst e2
        rw [if_neg e1]
        exact decide_eq_false h1
      · rw [if_neg e2] at h2
        have h2 := of_decide_eq_false h2
        rw [if_neg (by omega)]
        exact decide_eq_false (by omega)
theorem lexLt_tri : ∀ a b : List Int, HT.lexLt a b = false → HT.lexLt b a = false → a = b
  | [], [], _, _ => rfl
  | [], y :: ys, h, _ => by cases h
  | x :: xs, [], _, h => by cases h
  | x :: xs, y :: ys, h1, h2 => by
    rw [HT.lexLt_cons] at h1 h2
    by_cases e : x = y
    · subst e
      rw [if_pos rfl] at h1 h2
      rw [lexLt_tri xs ys h1 h2]
    · rw [if_neg e] at h1
      rw [if_neg (fun q => e q.symm)] at h2
      have h1 := of_decide_eq_false h1
      have h2 := of_decide_eq_false h2
      omega
theorem lexLt_tr {a b c : List Int} (h1 : HT.lexLt a b = true) (h2 : HT.lexLt b c = true) : HT.lexLt a c = true := by
  cases h : HT.lexLt a c with
  | true => rfl
  | false =>
    have q := lexLt_ntr c a b h (lexLt_asym _ _ h1)
    rw [q] at h2
    cases h2
theorem swo_key {α : Type} (k : α → List Int) : SrtO.Swo fun v u => HT.lexLt (k v) (k u) := ⟨fun x y h => lexLt_asym _ _ h, fun x y z h1 h2 => lexLt_ntr _ _ _ h1 h2⟩
/-- a tuple of these integers in a heap -/
def IsTI (h : Heap) (q : Addr) (ns : List Int) : Prop := ∃ (o : Obj) (its : List Value) (n : Nat), h.get? q = some o ∧ o.cls = .type "tuple" ∧ o.data = .seq its.toArray n ∧ IntsAre its ns
theorem IsTI.keeps {h h' : Heap} {q : Addr} {ns : List Int} (x : IsTI h q ns) (k : ∀ b o, h.get? b = some o → o.cls = .type "tuple" → h'.get? b = some o) : IsTI h' q ns := by
  obtain ⟨o, its, n, h1, h2, h3, h4⟩ := x
  exact ⟨o, its, n, k _ _ h1 h2, h2, h3, h4⟩
theorem readsAll_ints {h : Heap} : ∀ {its : List Value} {ns : List Int}, IntsAre its ns → ReadsAll h its (ns.map PyData.int) []
  | _, _, .nil => .nil
  | _, _, .cons n t r => .cons (.int n t) (readsAll_ints r)
theorem IsTI.reads {h : Heap} {q : Addr} {ns : List Int} (x : IsTI h q ns) : Reads h (.ref q) (.tuple (ns.map PyData.int)) [] := by
  obtain ⟨o, its, n, h1, h2, h3, h4⟩ := x
  exact .tuple h1 h2 h3 (by simpa using readsAll_ints h4)
theorem lay_ints : ∀ ns : List Int, PyData.canLayAll0 (ns.map PyData.int) = true
  | [] => rfl
  | n :: ns => by
    show (PyData.canLay0 (.int n) && PyData.canLayAll0 (ns.map PyData.int)) = true
    rw [lay_ints ns]
    rfl
theorem lay_kd (ns : List Int) : (PyData.tuple (ns.map PyData.int)).canLay0 = true := lay_ints ns
theorem depth_ints : ∀ ns : List Int, PyData.depthAll (ns.map PyData.int) = 0
  | [] => rfl
  | n :: ns => by
    have e := depth_ints ns
    simp [PyData.depthAll, PyData.depth, e]
theorem depth_kd (ns : List Int) : (PyData.tuple (ns.map PyData.int)).depth ≤ 1 := by
  have e := depth_ints ns
  simp [PyData.depth, e]
theorem eqv_kd (a b : List Int) : PyData.eqv (.tuple (a.map PyData.int)) (.tuple (b.map PyData.int)) = decide (a = b) := PySem.W.ked_eqvAll a b
variable {prog : Program} {w : World} {A : Around} {s : Shared}
theorem ti_eqAt {q q' : Addr} {a b : List Int} (h1 : IsTI s.heap q a) (h2 : IsTI s.heap q' b) (hu : A.units + 1 < cLine) : SeqAt.EqAt A s (.ref q) (.ref q') (decide (a = b)) := by
  have e := SeqAt.eqAt_reads _ _ A s _ _ _ _ h1.reads h2.reads (lay_kd a) (lay_kd b) (by
    have := depth_kd a
    have := Nat.min_le_left (PyData.tuple (a.map PyData.int)).depth (PyData.tuple (b.map PyData.int)).depth
    omega)
  rw [eqv_kd] at e
  exact e
theorem ti_lt {q q' : Addr} {a b : List Int} (h1 : IsTI s.heap q a) (h2 : IsTI s.heap q' b) (hu : A.units < cLine) {E : Value → Shared → Prop} {Q : Bool → Shared → Prop} (h : Q (HT.lexLt a b) s) : wpAny (model prog w) A (oneLt' false (.ref q) (.ref q')) Q E s := by
  obtain ⟨o1, i1, n1, a1, a2, a3, a4⟩ := h1
  obtain ⟨o2, i2, n2, b1, b2, b3, b4⟩ := h2
  refine PySem.W.kat_one _ _ (HT.lt_tupInts (items := i1.toArray) (items2 := i2.toArray) ⟨o1, a1, a2, n1, a3⟩ ⟨o2, b1, b2, n2, b3⟩ (by simpa using a4) (by simpa using b4) hu ?_)
  exact h
/-- such a pair -/
def IsEnt (h : Heap) (v : Value) (ns : List Int) : Prop := ∃ (a q u : Addr) (o : Obj) (n : Nat), v = .ref a ∧ h.get? a = some o ∧ o.cls = .type "tuple" ∧ o.data = .seq #[.ref q, .ref u] n ∧ IsTI h q ns
theorem IsEnt.keeps {h h' : Heap} {v : Value} {ns : List Int} (x : IsEnt h v ns) (k : ∀ b o, h.get? b = some o → o.cls = .type "tuple" → h'.get? b = some o) : IsEnt h' v ns := by
  obtain ⟨a, q, u, o, n, e, h1, h2, h3, h4⟩ := x
  exact ⟨a, q, u, o, n, e, k _ _ h1 h2, h2, h3, h4.keeps k⟩
theorem ents_firsts {h : Heap} {k : Value → List Int} : ∀ {vs : List Value}, (∀ v ∈ vs, IsEnt h v (k v)) → ∃ fs : List Value, PySem.W.KatTups h vs fs ∧ fs.length = vs.length ∧ ∀ f ∈ fs, ∃ q ns, f = Value.ref q ∧ IsTI h q ns
  | [], _ => ⟨[], PySem.W.KatTups.nil, rfl, fun _ hm => by simp at hm⟩
  | v :: vs, hp => by
    obtain ⟨fs, h1, h2, h3⟩ := ents_firsts (vs := vs) fun v' hm => hp v' (List.mem_cons_of_mem _ hm)
    obtain ⟨a, q, u, o, n, e, ho, hc, hd, ht⟩ := hp v (List.mem_cons_self ..)
    subst e
    refine ⟨.ref q :: fs, PySem.W.KatTups.cons ho hc hd rfl h1, by rw [List.length_cons, List.length_cons, h2], fun f hm => ?_⟩
    rcases List.mem_cons.mp hm with rfl | hm
    · exact ⟨q, _, rfl, ht⟩
    · exact h3 f hm
theorem ent_cmp {vs : List Value} {k : Value → List Int} (hu : A.units + 1 < cLine) (hp : ∀ v ∈ vs, IsEnt s.heap v (k v)) (hi : ∀ v ∈ vs, ∀ u ∈ vs, k v = k u → v = u) : SrtO.Cmp prog w A s (tuples' false) (fun p => p.1 ∈ vs) (SrtO.lt2 fun v u => HT.lexLt (k v) (k u)) := by
  intro p q hm hm'
  have h1 := hp _ hm
  have h2 := hp _ hm'
  have hij := hi _ hm _ hm'
  show wpAny (model prog w) A (keyLt' (tuples' false) p.1 q.1) (fun r s' => s' = s ∧ r = HT.lexLt (k p.1) (k q.1)) (fun _ _ => False) s
  generalize k p.1 = x at h1 hij ⊢
  generalize k q.1 = y at h2 hij ⊢
  obtain ⟨a, q1, u, o, n, e, ho, hc, hd, t1⟩ := h1
  obtain ⟨a', q2, u', o', n', e', ho', hc', hd', t2⟩ := h2
  rw [e, e'] at hij ⊢
  refine PySem.W.kat_lt ho hd ho' hd' ?_
  show PySem.W.KatLex prog w A false (decide (2 < 2)) _ [(.ref q1, .ref q2), (.ref u, .ref u')] 0 s
  refine PySem.W.kat_cons (ti_eqAt t1 t2 hu prog w _ _ ?_)
  refine PySem.W.kat_go (fun e1 => ?_) (fun e1 => ?_)
  · have ex : x = y := of_decide_eq_true e1
    have ea := hij ex
    have ea : a = a' := by
      injection ea
    subst ea
    have eo : o = o' := Option.some.inj (ho.symm.trans ho')
    subst eo
    rw [hd] at hd'
    have eu : u = u' := by
      injection hd' with e1 e2
      simp at e1
      exact e1.2
    subst eu
    refine PySem.W.kat_yes (PySem.W.kat_cons (SeqAt.EqAt.same _ prog w _ _ ?_))
    refine PySem.W.kat_go (fun e2 => ?_) (fun e2 => by cases e2)
    refine PySem.W.kat_yes (PySem.W.kat_nil ⟨rfl, ?_⟩)
    rw [ex, lexLt_irr]
    rfl
  · exact PySem.W.kat_no (ti_lt t1 t2 (by omega) ⟨rfl, rfl⟩)
theorem ents_sortable {a : Addr} {vs : List Value} {k : Value → List Int} (hu : A.units + 1 < cLine) (h0 : 0 < vs.length) (hp : ∀ v ∈ vs, IsEnt s.heap v (k v)) (hi : ∀ v ∈ vs, ∀ u ∈ vs, k v = k u → v = u) (ha : ∀ o, s.heap.get? a = some o → o.cls ≠ .type "tuple") : SrtO.SortableO prog w A s a vs fun v u => HT.lexLt (k v) (k u) := by
  intro h' keep
  have kp : ∀ b o, s.heap.get? b = some o → o.cls = .type "tuple" → h'.get? b = some o := fun b o e c => keep b o (fun z => by subst z; exact ha o e c) e
  have hp' : ∀ v ∈ vs, IsEnt h' v (k v) := fun v hm => (hp v hm).keeps kp
  obtain ⟨fs, h1, h2, h3⟩ := ents_firsts hp'
  refine ⟨tuples' false, fun Q E hq => ?_, ent_cmp hu hp' hi⟩
  refine PySem.W.kat_kind (T := .type "tuple") h1 (by omega) (fun f hm => ?_) (by rfl) ?_
  · obtain ⟨q, ns, rfl, o, its, n, g1, g2, g3, g4⟩ := h3 f hm
    have e : PySem.W.Looks (model prog w) h' (typeOf (.ref q)) o.cls := (PySem.W.Looks.ld g1).andThen .now
    rw [g2] at e
    exact e
  · have e : (Value.type "tuple" != Value.type "tuple") = false := by first | decide +kernel | rfl | decide
    rw [e]
    exact hq
theorem sorted_ents {l : Addr} {vs : List Value} {k : Value → List Int} {E : Value → Shared → Prop} {Q : Value → Shared → Prop} (hu : A.units + 10 < cLine) (hl : s.heap.IsList l vs.toArray) (hz : vs.length ≤ sizeLine) (hp : ∀ v ∈ vs, IsEnt s.heap v (k v)) (hi : ∀ v ∈ vs, ∀ u ∈ vs, k v = k u → v = u)
    (h : ∀ (h' : Heap) (d : Addr) (out : List Value), SrtO.Srtd (fun v u => HT.lexLt (k v) (k u)) out → SrtO.Stb (fun v u => HT.lexLt (k v) (k u)) out vs → (∀ b o, s.heap.get? b = some o → h'.get? b = some o) → s.heap.objs.size ≤ d → (∃ n, h'.get? d = some (seqObj "list" out.toArray n)) → Q (.ref d) { s with heap := h' }) :
    wpAny (model prog w) A (call (.builtin "sorted") [.ref l]) Q E s := by
  refine SrtO.sorted_ord (swo_key k) hl hz (fun h2 h₁ a ha kk => ?_) fun out hs hb => ?_
  · refine ents_sortable (s := { s with heap := h₁ }) (by
      show A.units + 1 + 1 + 1 < cLine
      omega) (by omega) (fun v hm => (hp v hm).keeps fun b o e _ => (kk b o e).2) hi fun o e => ?_
    have e' : some o = some (seqObj "list" vs.toArray 0) := e.symm.trans ha
    cases e'
    intro c
    exact absurd (Value.type.inj c) (by decide)
  · exact h _ _ out hs hb (fun b o e => sortedAll_old e) (Nat.le_succ _) (sortedAll_at s.heap vs out.toArray)
/-! ### sorted: tuples of integers of any lengths -/
theorem one_lt_ti {q q' : Addr} {a b : List Int} {x : Bool} (h1 : IsTI s.heap q a) (h2 : IsTI s.heap q' b) (hu : A.units + 1 < cLine) {E : Value → Shared → Prop} {Q : Bool → Shared → Prop} (h : Q (HT.lexLt a b) s) : wpAny (model prog w) A (oneLt' x (.ref q) (.ref q')) Q E s := by
  cases x with
  | false => exact ti_lt h1 h2 (by omega) h
  | true =>
    obtain ⟨⟨cls, dd, data, sl⟩, i1, n1, a1, a2, a3, a4⟩ := h1
    obtain ⟨⟨cls2, dd2, data2, sl2⟩, i2, n2, b1, b2, b3, b4⟩ := h2
    simp only at a2 a3 b2 b3
    subst a2 a3 b2 b3
    rw [oneLt'_eq]
    simp only [if_true]
    refine wpAny_bind (wpAny_cRoomFor (by omega) ?_)
    refine wpAny_bind (wpAny_callSpecialIfBound?_slot (name := Str.ofString "__lt__") ⟨_, a1, rfl⟩ PySem.F.slot_tuple_lt (call_meets PySem.F.slot_tuple_lt ⟨_, a1, rfl⟩ PySem.F.entry_tuple_lt (PySem.F.args_tuple_lt_2 _ _) (HT.tuple_lt_ints q q' i1.toArray i2.toArray n1 n2 dd dd2 sl sl2 a b (by simpa using a4) (by simpa using b4)) ⟨a1, b1, ?_⟩))
    exact wpAny_truthy_bool h
theorem ti_lex {fin : Bool} {Q : Bool → Shared → Prop} : ∀ {vs us : List Value} {a b : List Int}, IntsAre vs a → IntsAre us b → (i : Nat) → (hf : a.length + us.length = a.length + us.length) → (∀ r, (∀ c d : List Int, c.length = a.length → d.length = b.length → True) → (r = HT.lexLt a b ∨ (r = fin ∧ (a.length ≤ b.length ∨ b.length ≤ a.length) ∧ HT.lexLt a b = decide (a.length < b.length) ∧ a.take b.length = b.take a.length)) → Q r s) →
    PySem.W.KatLex prog w A true fin Q (vs.zip us) i s
  | _, _, [], b, .nil, hb, i, _, h => by
    show Q fin s
    refine h fin (fun _ _ _ _ => trivial) (.inr ⟨rfl, .inl (Nat.zero_le _), ?_, by simp⟩)
    cases b with
    | nil => rfl
    | cons y ys => rfl
  | _, _, x :: a, [], .cons _ _ ra, .nil, i, _, h => by
    show Q fin s
    exact h fin (fun _ _ _ _ => trivial) (.inr ⟨rfl, .inr (Nat.zero_le _), rfl, by simp⟩)
  | _, _, x :: a, y :: b, .cons _ t ra, .cons _ u rb, i, _, h => by
    show PySem.W.KatLex prog w A true fin Q ((.int x t, .int y u) :: _) i s
    refine PySem.W.kat_cons (SeqAt.EqAt.int_int x t y u prog w _ _ ?_)
    refine PySem.W.kat_go (fun e1 => ?_) (fun e1 => ?_)
    · have ex : x = y := by simpa using e1
      subst ex
      refine PySem.W.kat_yes (ti_lex ra rb (i + 1) rfl fun r _ hr => h r (fun _ _ _ _ => trivial) ?_)
      rw [HT.lexLt_cons, if_pos rfl]
      rcases hr with hr | ⟨hr, h1, h2, h3⟩
      · exact .inl hr
      · refine .inr ⟨hr, ?_, ?_, ?_⟩
        · rw [List.length_cons, List.length_cons]
          omega
        · rw [h2, List.length_cons, List.length_cons]
          exact decide_eq_decide.mpr (by omega)
        · rw [List.length_cons, List.length_cons, List.take_succ_cons, List.take_succ_cons, h3]
    · have ex : ¬ x = y := by simpa using e1
      refine PySem.W.kat_no ?_
      have e3 : HT.lexLt (x :: a) (y :: b) = decide (x < y) := by rw [HT.lexLt_cons, if_neg ex]
      have hq : Q (decide (x < y)) s := h _ (fun _ _ _ _ => trivial) (.inl e3.symm)
      cases hb : (true && i == 0) with
      | true => exact oneLt_int hq
      | false => exact PySem.W.kat_one _ _ (PyProof.Rows.lt_int hq)
theorem ti_tuples {q q' : Addr} {a b : List Int} (h1 : IsTI s.heap q a) (h2 : IsTI s.heap q' b) {E : Value → Shared → Prop} {Q : Bool → Shared → Prop} (h : Q (HT.lexLt a b) s) : wpAny (model prog w) A (keyLt' (tuples' true) (.ref q) (.ref q')) Q E s := by
  obtain ⟨o1, i1, n1, a1, a2, a3, a4⟩ := h1
  obtain ⟨o2, i2, n2, b1, b2, b3, b4⟩ := h2
  refine PySem.W.kat_lt a1 a3 b1 b3 ?_
  have la := a4.length
  have lb := b4.length
  show PySem.W.KatLex prog w A true (decide (i1.toArray.size < i2.toArray.size)) Q (i1.zip i2) 0 s
  refine ti_lex a4 b4 0 rfl fun r _ hr => ?_
  rcases hr with hr | ⟨hr, _, h3, _⟩
  · rw [hr]
    exact h
  · rw [hr]
    have e : decide (i1.toArray.size < i2.toArray.size) = HT.lexLt a b := by
      rw [h3, List.size_toArray, List.size_toArray, la, lb]
    rw [e]
    exact h
def TiV (h : Heap) (v : Value) (ns : List Int) : Prop := ∃ q, v = .ref q ∧ IsTI h q ns
theorem ti_firsts {h : Heap} {k : Value → List Int} : ∀ {vs : List Value}, (∀ v ∈ vs, TiV h v (k v)) → (∀ v ∈ vs, k v ≠ []) → ∃ fs : List Value, PySem.W.KatTups h vs fs ∧ fs.length = vs.length ∧ ∀ f ∈ fs, ∃ x t, f = Value.int x t
  | [], _, _ => ⟨[], PySem.W.KatTups.nil, rfl, fun _ hm => by simp at hm⟩
  | v :: vs, hp, hn => by
    obtain ⟨fs, h1, h2, h3⟩ := ti_firsts (vs := vs) (fun v' hm => hp v' (List.mem_cons_of_mem _ hm)) (fun v' hm => hn v' (List.mem_cons_of_mem _ hm))
    obtain ⟨q, e, o, its, n, ho, hc, hd, ht⟩ := hp v (List.mem_cons_self ..)
    have hne := hn v (List.mem_cons_self ..)
    subst e
    revert hne ht
    generalize k (.ref q) = ns
    intro ht hne
    cases ht with
    | nil => exact absurd rfl hne
    | @cons x t vs' ns' r =>
      refine ⟨.int x t :: fs, PySem.W.KatTups.cons ho hc hd rfl h1, by rw [List.length_cons, List.length_cons, h2], fun f hm => ?_⟩
      rcases List.mem_cons.mp hm with rfl | hm
      · exact ⟨x, t, rfl⟩
      · exact h3 f hm
theorem ti_first {v : Value} {ns : List Int} (h : TiV s.heap v ns) {E : Value → Shared → Prop} {Q : Option Value → Shared → Prop} (q : ∀ r : Option Value, (r.isSome = true ↔ ns ≠ []) → Q r s) : wpAny (model prog w) A (firstOfTuple' v) Q E s := by
  obtain ⟨a, rfl, o, its, n, ho, hc, hd, ht⟩ := h
  rw [PySem.W.kas_first_eq]
  refine wpAny_bind (PySem.W.Looks.here (show PySem.W.Looks (model prog w) s.heap (typeOf (.ref a)) o.cls from (PySem.W.Looks.ld ho).andThen .now) ?_)
  rw [hc, if_neg (by first | decide | simp)]
  refine wpAny_bind (listItems_at ho hd (wpAny_pure ?_))
  refine q _ ?_
  cases ht with
  | nil => simp
  | cons x t r => simp
theorem ti_firstsM {k : Value → List Int} {E : Value → Shared → Prop} : ∀ {vs : List Value} {Q : List (Option Value) → Shared → Prop}, (∀ v ∈ vs, TiV s.heap v (k v)) → (∀ rs : List (Option Value), rs.length = vs.length → (∀ (i : Nat) (v : Value) (r : Option Value), vs[i]? = some v → rs[i]? = some r → (r.isSome = true ↔ k v ≠ [])) → Q rs s) → wpAny (model prog w) A (vs.mapM firstOfTuple') Q E s
  | [], Q, _, h => by
    rw [List.mapM_nil]
    exact wpAny_pure (h [] rfl fun i v r e => by simp at e)
  | v :: vs, Q, hp, h => by
    rw [List.mapM_cons]
    refine wpAny_bind (ti_first (hp v (List.mem_cons_self ..)) fun r hr => ?_)
    refine wpAny_bind (ti_firstsM (vs := vs) (fun v' hm => hp v' (List.mem_cons_of_mem _ hm)) fun rs hl hrs => wpAny_pure (h (r :: rs) (by rw [List.length_cons, List.length_cons, hl]) fun i v' r' e1 e2 => ?_))
    cases i with
    | zero =>
      cases (show some v = some v' from e1)
      cases (show some r = some r' from e2)
      exact hr
    | succ i => exact hrs i v' r' (by simpa using e1) (by simpa using e2)
theorem ti_types {E : Value → Shared → Prop} {k : Value → List Int} {vs : List Value} {Q : Option Value → Shared → Prop} (h0 : 0 < vs.length) (hp : ∀ v ∈ vs, TiV s.heap v (k v)) (h : Q (some (.type "tuple")) s) : wpAny (model prog w) A (oneTypeOnly' vs.toArray) Q E s := by
  obtain ⟨v1, vr, rfl⟩ : ∃ v1 vr, vs = v1 :: vr := by
    match vs, h0 with
    | v1 :: vr, _ => exact ⟨v1, vr, rfl⟩
  rw [oneTypeOnly'_eq, List.mapM_toArray, map_eq_pure_bind]
  refine wpAny_bind (wpAny_bind (PySem.W.kas_mapM (r := .type "tuple") _ (fun v hv Q' hq => ?_) (wpAny_pure ?_)))
  · obtain ⟨a, rfl, o, its, n, ho, hc, hd, ht⟩ := hp v hv
    have e : PySem.W.Looks (model prog w) s.heap (typeOf (.ref a)) o.cls := (PySem.W.Looks.ld ho).andThen .now
    rw [hc] at e
    exact e.here hq
  · have hall2 : ((List.map (fun _ => Value.type "tuple") (v1 :: vr)).toArray.all fun x => x == Value.type "tuple") = true := by
      simp only [List.all_toArray, List.all_map, List.all_eq_true]
      intro _ _
      rfl
    have h1 : (List.map (fun _ => Value.type "tuple") (v1 :: vr)).toArray[0]? = some (Value.type "tuple") := by simp
    rw [h1]
    simp only [hall2, if_true]
    exact wpAny_pure h
theorem ti_kind {k : Value → List Int} {vs : List Value} (h0 : 0 < vs.length) (hp : ∀ v ∈ vs, TiV s.heap v (k v)) : ∃ κ, (κ = tuples' true ∨ κ = general' ∨ κ = oneType') ∧ ∀ (Q : SortKind → Shared → Prop) (E : Value → Shared → Prop), Q κ s → wpAny (model prog w) A (keyKind' vs.toArray) Q E s := by
  by_cases hn : ∀ v ∈ vs, k v ≠ []
  · obtain ⟨fs, h1, h2, h3⟩ := ti_firsts hp hn
    refine ⟨tuples' true, .inl rfl, fun Q E hq => ?_⟩
    refine PySem.W.kat_kind (T := .type "int") h1 (by omega) (fun f hm => ?_) (by rfl) ?_
    · obtain ⟨x, t, rfl⟩ := h3 f hm
      exact PySem.W.Looks.now
    · have e : (Value.type "int" != Value.type "tuple") = true := by first | decide +kernel | rfl | decide
      rw [e]
      exact hq
  · obtain ⟨v, hv, hve⟩ : ∃ v ∈ vs, k v = [] := by
      refine Classical.byContradiction fun q => hn fun v hv e => q ⟨v, hv, e⟩
    obtain ⟨i, hi, hiv⟩ := List.getElem_of_mem hv
    have hiv : vs[i]? = some v := by rw [List.getElem?_eq_getElem hi, hiv]
    have no : ∀ rs : List (Option Value), rs.length = vs.length → (∀ (i : Nat) (v : Value) (r : Option Value), vs[i]? = some v → rs[i]? = some r → (r.isSome = true ↔ k v ≠ [])) → (rs.toArray.all fun x => x.isSome) = false := fun rs hl hrs => by
      cases hh : (rs.toArray.all fun x => x.isSome) with
      | false => rfl
      | true =>
        rw [List.all_toArray, List.all_eq_true] at hh
        have hir : i < rs.length := by omega
        have h1 := hrs i v rs[i] hiv (List.getElem?_eq_getElem hir)
        exact absurd hve (h1.mp (hh _ (List.getElem_mem hir)))
    by_cases hf : ∀ v0, vs[0]? = some v0 → k v0 ≠ []
    · refine ⟨general', .inr (.inl rfl), fun Q E hq => ?_⟩
      rw [kat_kind_eq, List.mapM_toArray, map_eq_pure_bind]
      refine wpAny_bind (wpAny_bind (ti_firstsM hp fun rs hl hrs => wpAny_pure ?_))
      rw [if_neg (by rw [no rs hl hrs]; decide)]
      have h00 : 0 < rs.length := by omega
      have e0 : (rs.toArray[0]?.bind id).isSome = true := by
        have hv0 : vs[0]? = some vs[0] := List.getElem?_eq_getElem h0
        have := (hrs 0 _ rs[0] hv0 (List.getElem?_eq_getElem h00)).mpr (hf _ hv0)
        simp [h00, this]
      rw [if_pos e0]
      exact wpAny_pure hq
    · obtain ⟨v0, hv0, hk0⟩ : ∃ v0, vs[0]? = some v0 ∧ k v0 = [] := by
        refine Classical.byContradiction fun q => hf fun v hv e => q ⟨v, hv, e⟩
      refine ⟨oneType', .inr (.inr rfl), fun Q E hq => ?_⟩
      rw [kat_kind_eq, List.mapM_toArray, map_eq_pure_bind]
      refine wpAny_bind (wpAny_bind (ti_firstsM hp fun rs hl hrs => wpAny_pure ?_))
      rw [if_neg (by rw [no rs hl hrs]; decide)]
      have h00 : 0 < rs.length := by omega
      have e0 : ¬ (rs.toArray[0]?.bind id).isSome = true := by
        have h1 := hrs 0 _ rs[0] hv0 (List.getElem?_eq_getElem h00)
        have h2 : ¬ rs[0].isSome = true := fun z => absurd hk0 (h1.mp z)
        simp [h00]
        simpa using h2
      rw [if_neg e0]
      refine wpAny_bind (ti_types h0 hp ?_)
      exact wpAny_pure hq
theorem ti_cmp {vs : List Value} {k : Value → List Int} {κ : SortKind} (hκ : κ = tuples' true ∨ κ = general' ∨ κ = oneType') (hu : A.units + 1 < cLine) (hp : ∀ v ∈ vs, TiV s.heap v (k v)) : SrtO.Cmp prog w A s κ (fun p => p.1 ∈ vs) (SrtO.lt2 fun v u => HT.lexLt (k v) (k u)) := by
  intro p q hm hm'
  obtain ⟨a, e1, h1⟩ := hp _ hm
  obtain ⟨b, e2, h2⟩ := hp _ hm'
  show wpAny (model prog w) A (keyLt' κ p.1 q.1) (fun r s' => s' = s ∧ r = HT.lexLt (k p.1) (k q.1)) (fun _ _ => False) s
  generalize k p.1 = x at h1 ⊢
  generalize k q.1 = y at h2 ⊢
  rw [e1, e2]
  rcases hκ with e | e | e
  · subst e
    exact ti_tuples h1 h2 ⟨rfl, rfl⟩
  · subst e
    exact one_lt_ti (x := false) h1 h2 hu ⟨rfl, rfl⟩
  · subst e
    exact one_lt_ti (x := true) h1 h2 hu ⟨rfl, rfl⟩
theorem IsTI.of_keeps {h h' : Heap} {v : Value} {ns : List Int} (x : TiV h v ns) (k : ∀ b o, h.get? b = some o → o.cls = .type "tuple" → h'.get? b = some o) : TiV h' v ns := by
  obtain ⟨q, e, t⟩ := x
  exact ⟨q, e, t.keeps k⟩
theorem tis_sortable {a : Addr} {vs : List Value} {k : Value → List Int} (hu : A.units + 1 < cLine) (h0 : 0 < vs.length) (hp : ∀ v ∈ vs, TiV s.heap v (k v)) (ha : ∀ o, s.heap.get? a = some o → o.cls ≠ .type "tuple") : SrtO.SortableO prog w A s a vs fun v u => HT.lexLt (k v) (k u) := by
  intro h' keep
  have kp : ∀ b o, s.heap.get? b = some o → o.cls = .type "tuple" → h'.get? b = some o := fun b o e c => keep b o (fun z => by subst z; exact ha o e c) e
  have hp' : ∀ v ∈ vs, TiV h' v (k v) := fun v hm => IsTI.of_keeps (hp v hm) kp
  obtain ⟨κ, hκ, hk⟩ := ti_kind (prog := prog) (w := w) (A := A) (s := { s with heap := h' }) h0 hp'
  exact ⟨κ, hk, ti_cmp hκ hu hp'⟩
/-- the keys of a dict, one by one -/
theorem rawSrc {d : Addr} {es : Array DictEntry} {ep : Nat} (lo : (d == sysModules) = false) : KdlSrc prog w "dict" d d es.size (fun i v => ∃ en, es[i]? = some en ∧ v = en.key) (fun h => DT.Raw h d es ep) where
  type := fun _ hm => hm.typeIs
  there := fun _ hm => ⟨hm.lt, hm.lt⟩
  keep := fun _ _ hm hk => hm.at' fun o e => hk d (.inl rfl) o e
  notList := by decide
  notTuple := by decide
  hint := fun _ _ _ _ hm hq => kdl_hint_dict hm.typeIs hq
  iter := fun A s hh hm => by
    obtain ⟨o, ho, hc, hdat⟩ := id hm
    refine ⟨_, fun i h => h.IsKeyIter s.heap.objs.size d i es.size ep ∧ DT.Raw h d es ep, fun _ _ hq => L2.iter_keys lo ho hc hdat hq, ?_, ⟨⟨_, Heap.get?_push_size _ rfl, rfl, rfl⟩, hm.push _⟩⟩
    have hne : d ≠ s.heap.objs.size := Nat.ne_of_lt hm.lt
    refine ⟨fun b hb => by simp at hb; simp [hb], fun i h h' st hk => ⟨st.1.at fun o e => hk _ (by simp) o e, st.2.at' fun o e => hk d (by simp) o e⟩, fun i s Q E hi st hQ => ?_, fun s Q E st hQ => ?_, fun i s Q E st hQ => wpAny_pyIter_keyiter st.1 hQ⟩
    · obtain ⟨od, hod, hoc, hdd⟩ := id st.2
      refine L2.next_key_item st.1 hod hdd rfl (Array.getElem?_eq_getElem hi) fun h' hit' hs' => ?_
      exact hQ _ h' s.toks ⟨_, Array.getElem?_eq_getElem hi, rfl⟩ ⟨hit', st.2.at' fun o e => hs'.extBut d o hne e⟩ fun b o hb e => hs'.extBut b o (fun h => hb (by simp [h])) e
    · obtain ⟨od, hod, hoc, hdd⟩ := id st.2
      exact L2.next_key_end hh st.1 hod hdd rfl (Nat.le_refl _) fun h' he' => hQ h' s.toks fun b o hb e => he' b o (fun h => hb (by simp [h])) e
end
/-! ### .. as rules of the layer -/
section
open PyProof.Rows PySem.W PySem.Calls
theorem ints_uniq : ∀ {vs : List Value} {a b : List Int}, IntsAre vs a → IntsAre vs b → a = b
  | _, _, _, .nil, .nil => rfl
  | _, _, _, .cons n t r, .cons _ _ r2 => by rw [ints_uniq r r2]
theorem IsTI.uniq {h : Heap} {q : Addr} {a b : List Int} (x : IsTI h q a) (y : IsTI h q b) : a = b := by
  obtain ⟨o, i, n, h1, h2, h3, h4⟩ := x
  obtain ⟨o', i', n', g1, g2, g3, g4⟩ := y
  rw [h1] at g1
  cases g1
  rw [h3] at g3
  have e : i = i' := by
    injection g3 with e1 e2
    simpa using e1
  subst e
  exact ints_uniq h4 g4
theorem IsEnt.uniq {h : Heap} {v : Value} {a b : List Int} (x : IsEnt h v a) (y : IsEnt h v b) : a = b := by
  obtain ⟨t, q, u, o, n, e, h1, h2, h3, h4⟩ := x
  obtain ⟨t', q', u', o', n', e', g1, g2, g3, g4⟩ := y
  rw [e] at e'
  cases e'
  rw [h1] at g1
  cases g1
  rw [h3] at g3
  have e : q = q' := by
    injection g3 with e1 e2
    simp at e1
    exact e1.1
  subst e
  exact h4.uniq g4
open Classical in
noncomputable def entK (h : Heap) (v : Value) : List Int := if hx : ∃ ns, IsEnt h v ns then Classical.choose hx else []
theorem entK_is {h : Heap} {v : Value} {ns : List Int} (x : IsEnt h v ns) : entK h v = ns := by
  have hx : ∃ ns, IsEnt h v ns := ⟨ns, x⟩
  unfold entK
  rw [dif_pos hx]
  exact (Classical.choose_spec hx).uniq x
open Classical in
noncomputable def tiK (h : Heap) (v : Value) : List Int := if hx : ∃ ns, TiV h v ns then Classical.choose hx else []
theorem TiV.uniq {h : Heap} {v : Value} {a b : List Int} (x : TiV h v a) (y : TiV h v b) : a = b := by
  obtain ⟨q, e, t⟩ := x
  obtain ⟨q', e', t'⟩ := y
  rw [e] at e'
  cases e'
  exact t.uniq t'
theorem tiK_is {h : Heap} {v : Value} {ns : List Int} (x : TiV h v ns) : tiK h v = ns := by
  have hx : ∃ ns, TiV h v ns := ⟨ns, x⟩
  unfold tiK
  rw [dif_pos hx]
  exact (Classical.choose_spec hx).uniq x
structure Ent where
  t : Addr
  q : Addr
  u : Addr
  k : List Int
def EntAt (H : Hp) (e : Ent) : Prop := H e.t = some (.tup [.ref e.q, .ref e.u]) ∧ H e.q = some (.tup (e.k.map V.int))
variable {X : Cx}
theorem ti_of {pins : List (Addr × Obj)} {σ : L2.St} {H : Hp} {s : Shared} (I : L2.Inv X pins σ H s) {q : Addr} {ns : List Int} (h : H q = some (.tup (ns.map V.int))) : IsTI s.heap q ns := by
  obtain ⟨_, its, rv, o, ho, hc, n, hd⟩ := I.hok _ _ h
  exact ⟨o, its, n, ho, hc, hd, rv.ints⟩
theorem ent_of {pins : List (Addr × Obj)} {σ : L2.St} {H : Hp} {s : Shared} (I : L2.Inv X pins σ H s) {e : Ent} (h : EntAt H e) : IsEnt s.heap (.ref e.t) e.k := by
  obtain ⟨h1, h2⟩ := h
  obtain ⟨_, its, rv, o, ho, hc, n, hd⟩ := I.hok _ _ h1
  obtain ⟨u1, u2, rfl, r1, r2⟩ := vals2 rv
  cases r1
  cases r2
  exact ⟨e.t, e.q, e.u, o, n, rfl, ho, hc, hd, ti_of I h2⟩
theorem vals_refs {α : Type} (f : α → Addr) : ∀ {l : List α} {us : List Value}, Vals (l.map fun z => V.ref (f z)) us → us = l.map fun z => Value.ref (f z)
  | [], us, h => by cases h; rfl
  | z :: l, us, h => by
    cases h with
    | cons r t =>
      cases r
      rw [vals_refs f t]
      rfl
theorem vals_refsB {α : Type} (f : α → Addr) : ∀ (l : List α), Vals (l.map fun z => V.ref (f z)) (l.map fun z => Value.ref (f z))
  | [] => .nil
  | z :: l => .cons rfl (vals_refsB f l)
theorem perm_up {α β : Type} (f : α → β) : ∀ {out : List β} {l : List α}, out.Perm (l.map f) → ∃ zs : List α, zs.Perm l ∧ zs.map f = out := by
  intro out l h
  generalize hm : l.map f = m at h
  induction h generalizing l with
  | nil =>
    cases l with
    | nil => exact ⟨[], .refl _, rfl⟩
    | cons x l => cases hm
  | @cons b out m p ih =>
    cases l with
    | nil => cases hm
    | cons x l =>
      injection hm with e1 e2
      obtain ⟨zs, pz, ez⟩ := ih e2
      exact ⟨x :: zs, pz.cons x, by rw [List.map_cons, e1, ez]⟩
  | swap b c m =>
    cases l with
    | nil => cases hm
    | cons x l =>
      cases l with
      | nil => cases hm
      | cons y l =>
        injection hm with e1 e2
        injection e2 with e2 e3
        exact ⟨y :: x :: l, .swap _ _ _, by rw [List.map_cons, List.map_cons, e1, e2, e3]⟩
  | trans p1 p2 ih1 ih2 =>
    obtain ⟨z2, q2, e2⟩ := ih2 hm
    obtain ⟨z1, q1, e1⟩ := ih1 e2
    exact ⟨z1, q1.trans q2, e1⟩
/-- sorted(xs), xs a list of pairs of a tuple of integers and an object, no two with the same integers -/
def rSortedE (K : PySem.W.Frag) : List V → Hp → VK → Prop := fun vs H Q => ∃ (a : Addr) (es : List Ent), vs = [V.ref a] ∧ SqL K H a (es.map fun e => V.ref e.t) ∧ (∀ e ∈ es, EntAt H e) ∧ (es.map (·.k)).Nodup ∧
  ∀ (es' : List Ent) (p : Addr), es'.Perm es → (es'.map (·.k)).Pairwise (fun x y => HT.lexLt x y = true) → H p = none → Q (.ref p) (upd H p (.lst (es'.map fun e => V.ref e.t)))
theorem strict_of {l : List (List Int)} (h1 : l.Pairwise (fun x y => HT.lexLt y x = false)) (h2 : l.Nodup) : l.Pairwise (fun x y => HT.lexLt x y = true) := by
  refine (List.Pairwise.and h1 h2).imp fun {x y} ⟨a, b⟩ => ?_
  cases h : HT.lexLt x y with
  | true => rfl
  | false => exact absurd (lexLt_tri _ _ h a) b
theorem cr_sortedE (hu : X.A.units + 64 < cLine) : CallR X (.builtin "sorted") (rSortedE X.K) := by
  intro pins s σ H vs us Q I r h
  obtain ⟨a, es, rfl, hs, he, hn, q⟩ := h
  obtain ⟨its, rv, hl, hz⟩ := I.list hs
  obtain ⟨u, rfl, ru⟩ := vals1 r
  obtain rfl : u = Value.ref a := ru
  have ei := vals_refs (fun e : Ent => e.t) rv
  have at_ : ∀ v ∈ its, ∃ e ∈ es, v = .ref e.t ∧ entK s.heap v = e.k ∧ IsEnt s.heap v e.k := fun v hv => by
    rw [ei] at hv
    obtain ⟨e, hm, rfl⟩ := List.mem_map.mp hv
    have x := ent_of I (he e hm)
    exact ⟨e, hm, rfl, entK_is x, x⟩
  have inj : ∀ e ∈ es, ∀ f ∈ es, e.k = f.k → e = f := fun e h1 f h2 hk => by
    obtain ⟨i, hi, ei⟩ := List.getElem_of_mem h1
    obtain ⟨j, hj, ej⟩ := List.getElem_of_mem h2
    have := List.pairwise_iff_getElem.mp hn
    rcases Nat.lt_trichotomy i j with c | c | c
    · have q := this i j (by rw [List.length_map]; exact hi) (by rw [List.length_map]; exact hj) c
      rw [List.getElem_map, List.getElem_map, ei, ej] at q
      exact absurd hk q
    · subst c
      exact ei.symm.trans ej
    · have q := this j i (by rw [List.length_map]; exact hj) (by rw [List.length_map]; exact hi) c
      rw [List.getElem_map, List.getElem_map, ei, ej] at q
      exact absurd hk.symm q
  refine sorted_ents (k := entK s.heap) (by omega) hl.isList (by rw [← rv.length]; exact hz) (fun v hv => ?_) (fun v hv u hu' hk => ?_) fun h' d out h1 h2 kp hd hn' => ?_
  · obtain ⟨e, _, _, e2, x⟩ := at_ v hv
    rw [e2]
    exact x
  · obtain ⟨e, m1, e1, e2, _⟩ := at_ v hv
    obtain ⟨f, m2, f1, f2, _⟩ := at_ u hu'
    rw [e2, f2] at hk
    rw [e1, f1, inj e m1 f m2 hk]
  · have pe := h2.perm
    rw [ei] at pe
    obtain ⟨zs, pz, ez⟩ := perm_up (fun e : Ent => Value.ref e.t) pe
    obtain ⟨n, hn'⟩ := hn'
    have srt : (zs.map (·.k)).Pairwise (fun x y => HT.lexLt y x = false) := by
      have h1' := h1
      rw [← ez] at h1'
      have h1'' := List.pairwise_map.mp h1'
      rw [List.pairwise_map]
      refine List.Pairwise.imp_of_mem (fun {x y} hx hy hxy => ?_) h1''
      have ex := entK_is (ent_of I (he x (pz.mem_iff.mp hx)))
      have ey := entK_is (ent_of I (he y (pz.mem_iff.mp hy)))
      have hxy : HT.lexLt (entK s.heap (.ref y.t)) (entK s.heap (.ref x.t)) = false := hxy
      rw [ex, ey] at hxy
      exact hxy
    have nd : (zs.map (·.k)).Nodup := (pz.map (·.k)).nodup_iff.mpr hn
    refine ⟨.ref d, upd H d (.lst (zs.map fun e => V.ref e.t)), I.laid (t' := s.toks) kp hd ⟨?_, out, n, ?_, hn'⟩, rfl, q zs d pz (strict_of srt nd) (I.hok.fresh hd)⟩
    · rw [List.length_map, pz.length_eq]
      rw [List.length_map] at hz
      exact hz
    · rw [← ez]
      exact vals_refsB (fun e : Ent => e.t) zs
/-- sorted(d), d a dict whose keys are tuples of integers: the keys themselves, in order -/
def rSortedTD : List V → Hp → VK → Prop := fun vs H Q => ∃ (a : Addr) (kvs : List (List L2.Key × V)) (ks : List (List Int)), vs = [.ref a] ∧ H a = some (.dT kvs) ∧ kvs.map (·.1) = ks.map (·.map Sum.inl) ∧
  ∀ (p : Addr) (qs : List (Addr × List Int)), (qs.map (·.2)).Perm ks → (qs.map (·.2)).Pairwise (fun x y => HT.lexLt x y = true) → (∀ z ∈ qs, H z.1 = some (.tup (z.2.map V.int))) → H p = none → Q (.ref p) (upd H p (.lst (qs.map fun z => V.ref z.1)))
theorem kv_ints (ns : List Int) : (ns.map (Sum.inl : Int → L2.Key)).map kV = ns.map V.int := by
  rw [List.map_map]
  rfl
theorem cr_sortedTD (hcalm : X.calm = true) (hu : X.A.units + 64 < cLine) : CallR X (.builtin "sorted") rSortedTD := by
  intro pins s σ H xs us Q I r h
  obtain ⟨a, kvs, ks, rfl, ha, hks, q⟩ := h
  obtain ⟨u, eu, rx⟩ := vals1 r
  subst eu
  cases rx
  obtain ⟨z, lo, xs', rel, o, es, ep, ho, hx, hdat, hes, hn⟩ := (show ObjOk X.prog X.w H s.heap a (.dT kvs) from I.hok a _ ha)
  have l1 : kvs.length = xs'.length := Paired.length rel
  have l2 : es.size = xs'.length := by
    have e := congrArg List.length hes
    rw [Array.length_toList, List.length_map] at e
    exact e
  have l3 : kvs.length = ks.length := by
    have e := congrArg List.length hks
    rw [List.length_map, List.length_map] at e
    exact e
  have hr : DT.Raw s.heap a es ep := ⟨o, ho, hx, hdat⟩
  have at_ : ∀ (j : Nat) (e : Addr × List Int), ((xs'.map (·.2.1)).zip ks)[j]? = some e → H e.1 = some (.tup (e.2.map V.int)) := by
    intro j e hj
    obtain ⟨h1, h2⟩ := List.getElem?_zip_eq_some.mp hj
    rw [List.getElem?_map] at h1
    obtain ⟨x, hx1, hx2⟩ := Option.map_eq_some_iff.mp h1
    have hjl : j < kvs.length := by
      have := (List.getElem?_eq_some_iff.mp hx1).1
      omega
    obtain ⟨b, hb, r1, r2, r3⟩ := L2.paired_get rel (List.getElem?_eq_getElem hjl)
    rw [hx1] at hb
    cases hb
    have hk : (kvs.map (·.1))[j]? = some kvs[j].1 := by rw [List.getElem?_map, List.getElem?_eq_getElem hjl]; rfl
    rw [hks, List.getElem?_map, h2] at hk
    have hk : e.2.map Sum.inl = kvs[j].1 := Option.some.inj hk
    rw [← hx2, r2, ← hk, kv_ints]
  refine Calls.call_function_entry PyProof.Rows.kind_sorted PyProof.Rows.plain_sorted PyProof.Rows.entry_sorted (PyProof.Rows.args_sorted1 _) ?_
  unfold Builtin.«sorted»
  refine wpAny_bind (m := checkCount "sorted" 1 1 _) (wpAny_pure ?_)
  refine wpAny_bind (PySem.W.kdu_collect (A := X.A.in1) (rawSrc (es := es) (ep := ep) lo) (I.ok.hd hcalm) hr (by rw [l2, ← l1]; exact z) fun h' tk acc hk hacc => ?_)
  have hal : acc.toList.length = es.size := by rw [Array.length_toList, hacc.1]
  have hae : acc.toList = ((xs'.map (·.2.1)).zip ks).map fun e => Value.ref e.1 := by
    refine List.ext_getElem? fun j => ?_
    by_cases hj : j < acc.toList.length
    · have hj2 : j < xs'.length := by omega
      obtain ⟨en, he, hv⟩ := hacc.2 j acc.toList[j] (by rw [← Array.getElem?_toList]; exact List.getElem?_eq_getElem hj)
      rw [← Array.getElem?_toList, hes, List.getElem?_map, List.getElem?_eq_getElem hj2] at he
      have he : entryOfKey (tupleKind (mixKind X.prog X.w)) xs'[j] = en := Option.some.inj he
      rw [List.getElem?_eq_getElem hj, hv, ← he, List.getElem?_map]
      have hz : ((xs'.map (·.2.1)).zip ks)[j]? = some (xs'[j].2.1, ks[j]'(by omega)) := by
        rw [List.getElem?_zip_eq_some]
        exact ⟨by rw [List.getElem?_map, List.getElem?_eq_getElem hj2]; rfl, List.getElem?_eq_getElem (by omega)⟩
      rw [hz]
      rfl
    · rw [List.getElem?_eq_none (by omega), List.getElem?_eq_none]
      rw [List.length_map, List.length_zip, List.length_map]
      omega
  have I1 : L2.Inv X pins σ H { s with heap := h', toks := tk } := I.kept hk
  refine wpAny_bind (wpAny_newList ?_ (by rw [hal, l2, ← l1]; exact z))
  have hoL : (h'.push (seqObj "list" acc.toList.toArray 0)).get? h'.objs.size = some (seqObj "list" acc.toList.toArray 0) := Heap.get?_push_size _ rfl
  have hkeep : ∀ b o, h'.get? b = some o → b ≠ h'.objs.size ∧ (h'.push (seqObj "list" acc.toList.toArray 0)).get? b = some o := fun b o e => ⟨Nat.ne_of_lt (Heap.lt_size e), Heap.get?_push_of_some _ e⟩
  show wpAny _ _ _ _ _ { s with heap := h'.push (seqObj "list" acc.toList.toArray 0), toks := tk }
  have tis : ∀ v ∈ acc.toList, TiV s.heap v (tiK s.heap v) := fun v hv => by
    rw [hae] at hv
    obtain ⟨e, hm, rfl⟩ := List.mem_map.mp hv
    obtain ⟨j, hj⟩ := List.mem_iff_getElem?.mp hm
    have x : TiV s.heap (.ref e.1) e.2 := ⟨e.1, rfl, ti_of I (at_ j e hj)⟩
    rw [tiK_is x]
    exact x
  refine wpAny_bind (wpAny_holding (wpAny_call_entry PyProof.Rows.slot_list_sort ⟨_, hoL, rfl⟩ PyProof.Rows.entry_list_sort
    (SrtO.list_sort_ord (s := { s with heap := h'.push (seqObj "list" acc.toList.toArray 0), toks := tk }) (swo_key (tiK s.heap)) hoL (by rw [hal, l2, ← l1]; exact z) (fun h2 => ?_) fun out hs hb => ⟨_, rfl, ?_⟩) (PyProof.Rows.args_list_sort _)))
  · refine tis_sortable (by
      show X.A.units + 1 + 1 + 1 < cLine
      omega) (by omega) (fun v hv => IsTI.of_keeps (tis v hv) fun b o e _ => (hkeep b o (hk b o e)).2) fun o e => ?_
    have e' : some o = some (seqObj "list" acc.toList.toArray 0) := e.symm.trans hoL
    cases e'
    intro c
    exact absurd (Value.type.inj c) (by decide)
  · have pe := hb.perm
    rw [hae] at pe
    obtain ⟨zs, pz, ez⟩ := perm_up (fun e : Addr × List Int => Value.ref e.1) pe
    obtain ⟨e', he'⟩ := PyProof.Rows.sortedHeap_at (vs := acc.toList) (out := out.toArray) hoL
    have hzk : ∀ e ∈ zs, H e.1 = some (.tup (e.2.map V.int)) := fun e hm => by
      obtain ⟨j, hj⟩ := List.mem_iff_getElem?.mp (pz.mem_iff.mp hm)
      exact at_ j e hj
    have hks2 : ((xs'.map (·.2.1)).zip ks).map (·.2) = ks := List.map_snd_zip (by rw [List.length_map]; omega)
    have pks : (zs.map (·.2)).Perm ks := by
      have q := pz.map (·.2)
      rw [hks2] at q
      exact q
    have nd : ks.Nodup := by
      have e1 : xs'.map (·.1) = ks.map (·.map Sum.inl) := by
        rw [← hks]
        clear hn hes l1 l2 l3 at_ hae hal hacc tis pe pz hks2 hks ha z
        induction rel with
        | nil => rfl
        | cons r t ih =>
          rw [List.map_cons, List.map_cons, ih, r.1]
      rw [e1] at hn
      exact List.Pairwise.of_map _ (fun a b h e => h (congrArg _ e)) hn
    have srt : (zs.map (·.2)).Pairwise (fun x y => HT.lexLt y x = false) := by
      have h1' := hs
      rw [← ez] at h1'
      have h1'' := List.pairwise_map.mp h1'
      rw [List.pairwise_map]
      refine List.Pairwise.imp_of_mem (fun {x y} hx hy hxy => ?_) h1''
      have ex := tiK_is (h := s.heap) (v := .ref x.1) ⟨x.1, rfl, ti_of I (hzk x hx)⟩
      have ey := tiK_is (h := s.heap) (v := .ref y.1) ⟨y.1, rfl, ti_of I (hzk y hy)⟩
      have hxy : HT.lexLt (tiK s.heap (.ref y.1)) (tiK s.heap (.ref x.1)) = false := hxy
      rw [ex, ey] at hxy
      exact hxy
    have hn0 : H h'.objs.size = none := I1.hok.fresh (Nat.le_refl _)
    refine wpAny_pure ⟨_, rfl, .ref h'.objs.size, upd H h'.objs.size (.lst (zs.map fun z => V.ref z.1)), I1.laid (t' := tk) (fun b u e => ?_) (Nat.le_refl _) ⟨?_, out, e', ?_, he'⟩, rfl, q h'.objs.size zs pks (strict_of srt (pks.nodup_iff.mpr nd)) hzk hn0⟩
    · exact (PyProof.Rows.sortedHeap_old (hkeep b u e).1 (Heap.lt_size (hkeep b u e).2)).trans (hkeep b u e).2
    · have e1 := pz.length_eq
      rw [List.length_map, e1, List.length_zip, List.length_map]
      omega
    · rw [← ez]
      exact vals_refsB (fun e : Addr × List Int => e.1) zs
end

local macro_rules | `(tactic| walk_at "rd1") => `(tactic| first
  | (with_reducible refine r_sl ?_)
  | (with_reducible refine r_part ?_)
  | (with_reducible refine r_some ?_)
  | (with_reducible refine r_nopart ?_)
  | (with_reducible refine r_rng2 ?_)
  | (with_reducible refine r_rng3 ?_)
  | (with_reducible refine r_itL ?_)
  | (with_reducible refine r_itT ?_)
  | (with_reducible refine r_lcT ?_)
  | (with_reducible refine r_lcL ?_)
  | (with_reducible refine r_lc0 ?_))
local macro_rules | `(tactic| walk_at "ri1") => `(tactic| first
  | (with_reducible refine r_sl ?_)
  | (with_reducible refine r_part ?_)
  | (with_reducible refine r_some ?_)
  | (with_reducible refine r_nopart ?_)
  | (with_reducible refine r_rng2 ?_)
  | (with_reducible refine r_rng3 ?_)
  | (with_reducible refine r_itL ?_)
  | (with_reducible refine r_itT ?_)
  | (with_reducible refine r_lcT ?_)
  | (with_reducible refine r_lcL ?_)
  | (with_reducible refine r_lc0 ?_))

local macro_rules | `(tactic| walk_at "rd1") => `(tactic| first
  | (with_reducible refine r_callS ?_)
  | (with_reducible refine r_methS ?_)
  | (with_reducible refine r_raz ?_)
  | (with_reducible refine r_ost ?_)
  | (with_reducible refine r_xf ?_))
local macro_rules | `(tactic| walk_at "ri1") => `(tactic| first
  | (with_reducible refine r_callS ?_)
  | (with_reducible refine r_methS ?_)
  | (with_reducible refine r_raz ?_)
  | (with_reducible refine r_ost ?_)
  | (with_reducible refine r_xf ?_))
local macro_rules | `(tactic| walk_at "rh1") => `(tactic| first
  | (with_reducible refine r_callS ?_)
  | (with_reducible refine r_methS ?_)
  | (with_reducible refine r_raz ?_)
  | (with_reducible refine r_ost ?_)
  | (with_reducible refine r_xf ?_))

/-! ### nested values, and where they stand -/
theorem hu65 {A : Around} {k : Nat} (hr : Room k A) : A.units + 65 < cLine := by
  have := hr.un
  omega
theorem ps_never {X : Cx} {st : Stmt} : PS X st (fun _ _ _ => False) := ⟨fun _ _ _ _ _ _ h => h.elim⟩
inductive Vl where
  | lf (k : Str) (r : List PyData)
  | ls (xs : List Vl)
  | mp (es : List (List Int × Vl))
def kd (k : List Int) : PyData := .tuple (k.map PyData.int)
mutual
def Vl.dat : Vl → PyData
  | .lf k r => .tuple (.str k :: r)
  | .ls xs => .tuple [.str "list", .tuple (datL xs)]
  | .mp es => .tuple [.str "map", .tuple (datM es)]
def datL : List Vl → List PyData
  | [] => []
  | x :: xs => x.dat :: datL xs
def datM : List (List Int × Vl) → List PyData
  | [] => []
  | (k, v) :: es => .tuple [kd k, v.dat] :: datM es
end
/-- leaves -/
inductive Lf : Str → List PyData → Prop
  | null : Lf "null" []
  | truth (b : Bool) : Lf "truth" [.bool b]
  | number (m e : Int) : Lf "number" [.int m, .int e]
  | bytes (os : List Int) (h : os.length ≤ 300) : Lf "bytes" [kd os]
  | text (ps : List Int) (h : ps.length ≤ 200) : Lf "text" [kd ps]
mutual
def Vl.ok : Nat → Vl → Prop
  | _, .lf k r => Lf k r
  | 0, .ls _ => False
  | n + 1, .ls xs => xs.length ≤ 49 ∧ vokL n xs
  | 0, .mp _ => False
  | n + 1, .mp es => es.length ≤ 49 ∧ (es.map (·.1)).Pairwise (fun x y => HT.lexLt x y = true) ∧ (∀ e ∈ es, e.1.length ≤ 200) ∧ vokM n es
def vokL : Nat → List Vl → Prop
  | _, [] => True
  | n, x :: xs => x.ok n ∧ vokL n xs
def vokM : Nat → List (List Int × Vl) → Prop
  | _, [] => True
  | n, (_, v) :: es => v.ok n ∧ vokM n es
end
theorem vokL_app : ∀ {n : Nat} {xs ys : List Vl}, vokL n xs → vokL n ys → vokL n (xs ++ ys)
  | _, [], _, _, h => h
  | _, x :: xs, _, h1, h2 => ⟨h1.1, vokL_app h1.2 h2⟩
theorem vokL_mem : ∀ {n : Nat} {xs : List Vl}, vokL n xs → ∀ x ∈ xs, x.ok n
  | _, [], _, x, h => absurd h (by simp)
  | _, y :: ys, h, x, hx => by
    rcases List.mem_cons.mp hx with e | e
    · rw [e]
      exact h.1
    · exact vokL_mem h.2 x e
theorem vokM_mem : ∀ {n : Nat} {es : List (List Int × Vl)}, vokM n es → ∀ e ∈ es, e.2.ok n
  | _, [], _, x, h => absurd h (by simp)
  | _, (k, v) :: ys, h, x, hx => by
    rcases List.mem_cons.mp hx with e | e
    · rw [e]
      exact h.1
    · exact vokM_mem h.2 x e
theorem vokM_of : ∀ {n : Nat} {es : List (List Int × Vl)}, (∀ e ∈ es, e.2.ok n) → vokM n es
  | _, [], _ => trivial
  | _, (k, v) :: ys, h => ⟨h _ (List.mem_cons_self ..), vokM_of fun e he => h e (List.mem_cons_of_mem _ he)⟩
theorem datL_app : ∀ (xs ys : List Vl), datL (xs ++ ys) = datL xs ++ datL ys
  | [], _ => rfl
  | x :: xs, ys => congrArg (x.dat :: ·) (datL_app xs ys)
theorem datM_map : ∀ (es : List (List Int × Vl)), datM es = es.map fun e => .tuple [kd e.1, e.2.dat]
  | [] => rfl
  | (k, v) :: es => congrArg (PyData.tuple [kd k, v.dat] :: ·) (datM_map es)
theorem datL_map : ∀ (xs : List Vl), datL xs = xs.map Vl.dat
  | [] => rfl
  | x :: xs => congrArg (x.dat :: ·) (datL_map xs)
mutual
inductive Tp (H : Hp) : V → PyData → Prop
  | non : Tp H .non .none
  | bl (b : Bool) : Tp H (.bl b) (.bool b)
  | int (i : Int) : Tp H (.int i) (.int i)
  | str (x : Str) : Tp H (.str x) (.str x)
  | tup {a : Addr} {xs : List V} {ds : List PyData} : H a = some (.tup xs) → TpAll H xs ds → Tp H (.ref a) (.tuple ds)
inductive TpAll (H : Hp) : List V → List PyData → Prop
  | nil : TpAll H [] []
  | cons {v : V} {vs : List V} {d : PyData} {ds : List PyData} : Tp H v d → TpAll H vs ds → TpAll H (v :: vs) (d :: ds)
end
/-- tuples stay -/
def Tk (H H' : Hp) : Prop := ∀ a xs, H a = some (.tup xs) → H' a = some (.tup xs)
theorem Tk.refl (H : Hp) : Tk H H := fun _ _ h => h
theorem Tk.trans {H H1 H2 : Hp} (a : Tk H H1) (b : Tk H1 H2) : Tk H H2 := fun c xs h => b c xs (a c xs h)
theorem Same.tk {H H' : Hp} (s : Same H H') : Tk H H' := fun a xs h => s a _ h
theorem tk_put {H : Hp} {a : Addr} {xs : List V} {o : HO} (h : H a = some (.lst xs)) : Tk H (upd H a o) := fun b ys hb => by
  rw [upd_ne (fun e => by rw [e, h] at hb; cases hb)]
  exact hb
theorem tk_but {H H' : Hp} {a : Addr} {xs : List V} (h : H a = some (.lst xs)) (k : ∀ b o, b ≠ a → H b = some o → H' b = some o) : Tk H H' := fun b ys hb => k b _ (fun e => by rw [e, h] at hb; cases hb) hb
theorem keep_tk {K : Frg} {S : SC} {H H' : Hp} (L : LS K S H) (k : Keep S H H') : Tk H H' := by
  obtain ⟨k1, l, f, e⟩ := L.st
  exact tk_but e fun b o n h => k b o n h
mutual
theorem Tp.tk {H H' : Hp} (k : Tk H H') : ∀ (d : PyData) (v : V), Tp H v d → Tp H' v d
  | .none, _, h => by cases h; exact .non
  | .bool b, _, h => by cases h; exact .bl b
  | .int i, _, h => by cases h; exact .int i
  | .str x, _, h => by cases h; exact .str x
  | .tuple ds, _, h => by
    cases h with
    | tup h1 h2 => exact .tup (k _ _ h1) (TpAll.tk k ds _ h2)
  | .list ds, _, h => by cases h
  | .dict ds, _, h => by cases h
theorem TpAll.tk {H H' : Hp} (k : Tk H H') : ∀ (ds : List PyData) (vs : List V), TpAll H vs ds → TpAll H' vs ds
  | [], _, h => by cases h; exact .nil
  | d :: ds, _, h => by
    cases h with
    | cons h1 h2 => exact .cons (Tp.tk k d _ h1) (TpAll.tk k ds _ h2)
end
mutual
theorem Tp.dp {K : Frg} {H : Hp} : ∀ (d : PyData) (v : V), Tp H v d → Dp K H v d
  | .none, _, h => by cases h; exact .non
  | .bool b, _, h => by cases h; exact .bl b
  | .int i, _, h => by cases h; exact .int i
  | .str x, _, h => by cases h; exact .str x
  | .tuple ds, _, h => by
    cases h with
    | tup h1 h2 => exact .tup (SqT.of h1) (TpAll.dp ds _ h2)
  | .list ds, _, h => by cases h
  | .dict ds, _, h => by cases h
theorem TpAll.dp {K : Frg} {H : Hp} : ∀ (ds : List PyData) (vs : List V), TpAll H vs ds → DpAll K H vs ds
  | [], _, h => by cases h; exact .nil
  | d :: ds, _, h => by
    cases h with
    | cons h1 h2 => exact .cons (Tp.dp d _ h1) (TpAll.dp ds _ h2)
end
theorem tp_tup {H : Hp} {v : V} {ds : List PyData} (h : Tp H v (.tuple ds)) : ∃ a xs, v = .ref a ∧ H a = some (.tup xs) ∧ TpAll H xs ds := by
  cases h with
  | tup h1 h2 => exact ⟨_, _, rfl, h1, h2⟩
theorem tp_ints {H : Hp} : ∀ (ns : List Int), TpAll H (ns.map V.int) (ns.map PyData.int)
  | [] => .nil
  | n :: ns => .cons (.int n) (tp_ints ns)
theorem tp_intsB {H : Hp} : ∀ {xs : List V} (ns : List Int), TpAll H xs (ns.map PyData.int) → xs = ns.map V.int
  | _, [], h => by
    cases h
    rfl
  | _, n :: ns, h => by
    cases h with
    | cons h t =>
      cases h
      rw [tp_intsB ns t]
      rfl
theorem tp_kd {H : Hp} {a : Addr} {ns : List Int} (h : H a = some (.tup (ns.map V.int))) : Tp H (.ref a) (kd ns) := .tup h (tp_ints ns)
theorem tp_kdB {H : Hp} {v : V} {ns : List Int} (h : Tp H v (kd ns)) : ∃ a, v = .ref a ∧ H a = some (.tup (ns.map V.int)) := by
  obtain ⟨a, xs, rfl, h1, h2⟩ := tp_tup h
  rw [tp_intsB ns h2] at h1
  exact ⟨a, rfl, h1⟩
theorem tpAll_app {H : Hp} : ∀ {xs ys : List V} {ds es : List PyData}, TpAll H xs ds → TpAll H ys es → TpAll H (xs ++ ys) (ds ++ es)
  | _, _, _, _, .nil, h => h
  | _, _, _, _, .cons h1 h2, h => .cons h1 (tpAll_app h2 h)
theorem tpAll_len {H : Hp} : ∀ {xs : List V} {ds : List PyData}, TpAll H xs ds → xs.length = ds.length
  | _, _, .nil => rfl
  | _, _, .cons _ h => congrArg (· + 1) (tpAll_len h)
theorem tpAll_get {H : Hp} : ∀ {xs : List V} {ds : List PyData} {i : Nat} {x : V}, TpAll H xs ds → xs[i]? = some x → ∃ d, ds[i]? = some d ∧ Tp H x d
  | [], _, _, _, _, e => by simp at e
  | x :: xs, _, 0, _, .cons h t, e => by
    cases (show some x = some _ from e)
    exact ⟨_, rfl, h⟩
  | x :: xs, _, i + 1, _, .cons h t, e => by
    obtain ⟨d, e1, h1⟩ := tpAll_get (i := i) t (by simpa using e)
    exact ⟨d, by simpa using e1, h1⟩
theorem lay_kds : ∀ (ks : List (List Int)), PyData.canLayAll0 (ks.map kd) = true
  | [] => rfl
  | k :: ks => by
    show (PyData.canLay0 (kd k) && PyData.canLayAll0 (ks.map kd)) = true
    rw [lay_kds ks, show PyData.canLay0 (kd k) = true from lay_kd k]
    rfl
theorem depth_kd1 (k : List Int) : (kd k).depth ≤ 1 := depth_kd k
theorem depth_kds : ∀ (ks : List (List Int)), PyData.depthAll (ks.map kd) ≤ 1
  | [] => by simp [PyData.depthAll]
  | k :: ks => by
    have e := depth_kds ks
    have e2 := depth_kd k
    show max (PyData.depth (kd k)) (PyData.depthAll (ks.map kd)) ≤ 1
    exact Nat.max_le.mpr ⟨e2, e⟩
theorem shaped_kd (k : List Int) : SeqAt.shaped (kd k) = true := by
  unfold SeqAt.shaped
  rw [show PyData.canLay0 (kd k) = true from lay_kd k, decide_eq_true (Nat.le_trans (depth_kd1 k) (by decide))]
  rfl
theorem shaped_kds (ks : List (List Int)) : SeqAt.shaped (.list (ks.map kd)) = true := by
  unfold SeqAt.shaped
  rw [show PyData.canLay0 (.list (ks.map kd)) = true from lay_kds ks, decide_eq_true]
  · rfl
  · have e := depth_kds ks
    show PyData.depthAll (ks.map kd) + 1 ≤ 64
    omega
theorem eqv_kds (k : List Int) : ∀ (ks : List (List Int)), ((ks.map kd).any fun z => PyData.eqv z (kd k)) = decide (k ∈ ks)
  | [] => rfl
  | x :: ks => by
    show (PyData.eqv (kd x) (kd k) || ((ks.map kd).any fun z => PyData.eqv z (kd k))) = _
    rw [eqv_kds k ks, show PyData.eqv (kd x) (kd k) = decide (x = k) from eqv_kd x k]
    by_cases e : x = k
    · rw [e]
      simp
    · rw [decide_eq_false e]
      have : decide (k ∈ x :: ks) = decide (k ∈ ks) := decide_eq_decide.mpr ⟨fun q => by
        rcases List.mem_cons.mp q with q | q
        · exact absurd q.symm e
        · exact q, fun q => List.mem_cons_of_mem _ q⟩
      rw [this]
      rfl

/-! ### events of a value -/
inductive Ev where
  | op (m : Bool)
  | ky (k : List Int)
  | lf (k : Str) (r : List PyData)
  | cl
def kindOf_ (m : Bool) : Str := if m then "map" else "list"
def Ev.dat : Ev → PyData
  | .op m => .tuple [.str "open", .str (kindOf_ m)]
  | .ky k => .tuple [.str "key", kd k]
  | .lf k r => .tuple [.str "leaf", .tuple (.str k :: r)]
  | .cl => .tuple [.str "close"]
mutual
def Vl.evs : Vl → List Ev
  | .lf k r => [.lf k r]
  | .ls xs => .op false :: (evsL xs ++ [.cl])
  | .mp es => .op true :: (evsM es ++ [.cl])
def evsL : List Vl → List Ev
  | [] => []
  | x :: xs => x.evs ++ evsL xs
def evsM : List (List Int × Vl) → List Ev
  | [] => []
  | (k, v) :: es => .ky k :: (v.evs ++ evsM es)
end
theorem evsL_app : ∀ (xs ys : List Vl), evsL (xs ++ ys) = evsL xs ++ evsL ys
  | [], _ => rfl
  | x :: xs, ys => by
    show x.evs ++ evsL (xs ++ ys) = x.evs ++ evsL xs ++ evsL ys
    rw [evsL_app xs ys, List.append_assoc]
theorem evsM_app : ∀ (xs ys : List (List Int × Vl)), evsM (xs ++ ys) = evsM xs ++ evsM ys
  | [], _ => rfl
  | (k, v) :: xs, ys => by
    show Ev.ky k :: (v.evs ++ evsM (xs ++ ys)) = Ev.ky k :: (v.evs ++ evsM xs) ++ evsM ys
    rw [evsM_app xs ys, List.cons_append, List.append_assoc]
theorem evsL_one (x : Vl) : evsL [x] = x.evs := by
  show x.evs ++ [] = x.evs
  rw [List.append_nil]
theorem evsM_one (k : List Int) (x : Vl) : evsM [(k, x)] = .ky k :: x.evs := by
  show Ev.ky k :: (x.evs ++ []) = _
  rw [List.append_nil]
theorem evsL_sub {xs : List Vl} {i : Nat} {x : Vl} (h : xs[i]? = some x) : (evsL (xs.take i)).length + x.evs.length ≤ (evsL xs).length := by
  have e : xs = xs.take i ++ (x :: xs.drop (i + 1)) := by
    obtain ⟨hi, e⟩ := List.getElem?_eq_some_iff.mp h
    rw [← e, List.getElem_cons_drop, List.take_append_drop]
  have q := congrArg (fun l => (evsL l).length) e
  have q : (evsL xs).length = (evsL (xs.take i ++ (x :: xs.drop (i + 1)))).length := q
  rw [evsL_app, List.length_append] at q
  have q2 : (evsL (x :: xs.drop (i + 1))).length = x.evs.length + (evsL (xs.drop (i + 1))).length := List.length_append
  omega
theorem evsM_sub {xs : List (List Int × Vl)} {i : Nat} {k : List Int} {x : Vl} (h : xs[i]? = some (k, x)) : (evsM (xs.take i)).length + 1 + x.evs.length ≤ (evsM xs).length := by
  have e : xs = xs.take i ++ ((k, x) :: xs.drop (i + 1)) := by
    obtain ⟨hi, e⟩ := List.getElem?_eq_some_iff.mp h
    rw [← e, List.getElem_cons_drop, List.take_append_drop]
  have q := congrArg (fun l => (evsM l).length) e
  have q : (evsM xs).length = (evsM (xs.take i ++ ((k, x) :: xs.drop (i + 1)))).length := q
  rw [evsM_app, List.length_append] at q
  have q2 : (evsM ((k, x) :: xs.drop (i + 1))).length = x.evs.length + (evsM (xs.drop (i + 1))).length + 1 := congrArg (· + 1) List.length_append
  omega
def evD (es : List Ev) : List PyData := es.map Ev.dat
theorem evD_app (a b : List Ev) : evD (a ++ b) = evD a ++ evD b := List.map_append

theorem lf_kind {k : Str} {r : List PyData} (h : Lf k r) : k ≠ "list" ∧ k ≠ "map" := by
  cases h <;> exact ⟨by decide +kernel, by decide +kernel⟩
/-- all but the list at p stays -/
def Bt (p : Addr) (H H' : Hp) : Prop := ∀ b o, b ≠ p → H b = some o → H' b = some o
theorem Bt.trans {p : Addr} {H H1 H2 : Hp} (x : Bt p H H1) (y : Bt p H1 H2) : Bt p H H2 := fun b o n h => y b o n (x b o n h)
theorem Bt.of {p : Addr} {H H' : Hp} (s : Same H H') : Bt p H H' := fun b o _ h => s b o h
theorem Bt.put {p : Addr} {H : Hp} (o : HO) : Bt p H (upd H p o) := fun b u n h => (upd_ne n).trans h
theorem Bt.tk {p : Addr} {H H' : Hp} {xs : List V} (h : H p = some (.lst xs)) (k : Bt p H H') : Tk H H' := tk_but h k
theorem small16M {n : Nat} (h : n ≤ 16000100) : n < sizeLine := Nat.lt_of_le_of_lt h (by decide)
theorem cps_ne {a b : Str} (h : ¬ a = b) : decide (a = b) = false := decide_eq_false h
/-- what stands at a list, at a map -/
theorem tp_ls {H : Hp} {v : V} {xs : List Vl} (h : Tp H v (Vl.ls xs).dat) : ∃ a b ws, v = .ref a ∧ H a = some (.tup [.str "list", .ref b]) ∧ H b = some (.tup ws) ∧ TpAll H ws (datL xs) := by
  obtain ⟨a, vs, rfl, h1, h2⟩ := tp_tup (show Tp H v (.tuple [.str "list", .tuple (datL xs)]) from h)
  cases h2 with
  | cons x1 x2 =>
    cases x1
    cases x2 with
    | cons y1 y2 =>
      cases y2
      obtain ⟨b, ws, rfl, g1, g2⟩ := tp_tup y1
      exact ⟨a, b, ws, rfl, h1, g1, g2⟩
theorem tp_mp {H : Hp} {v : V} {es : List (List Int × Vl)} (h : Tp H v (Vl.mp es).dat) : ∃ a b ws, v = .ref a ∧ H a = some (.tup [.str "map", .ref b]) ∧ H b = some (.tup ws) ∧ TpAll H ws (datM es) := by
  obtain ⟨a, vs, rfl, h1, h2⟩ := tp_tup (show Tp H v (.tuple [.str "map", .tuple (datM es)]) from h)
  cases h2 with
  | cons x1 x2 =>
    cases x1
    cases x2 with
    | cons y1 y2 =>
      cases y2
      obtain ⟨b, ws, rfl, g1, g2⟩ := tp_tup y1
      exact ⟨a, b, ws, rfl, h1, g1, g2⟩
theorem tp_en {H : Hp} {v : V} {k : List Int} {d : PyData} (h : Tp H v (.tuple [kd k, d])) : ∃ t q u, v = .ref t ∧ H t = some (.tup [.ref q, u]) ∧ H q = some (.tup (k.map V.int)) ∧ Tp H u d := by
  obtain ⟨a, vs, rfl, h1, h2⟩ := tp_tup h
  cases h2 with
  | cons x1 x2 =>
    cases x2 with
    | cons y1 y2 =>
      cases y2
      obtain ⟨q, rfl, hq⟩ := tp_kdB x1
      exact ⟨a, q, _, rfl, h1, hq, y1⟩
theorem tp_lf {H : Hp} {v : V} {k : Str} {r : List PyData} (h : Tp H v (Vl.lf k r).dat) : ∃ a ws, v = .ref a ∧ H a = some (.tup (.str k :: ws)) ∧ TpAll H ws r := by
  obtain ⟨a, vs, rfl, h1, h2⟩ := tp_tup (show Tp H v (.tuple (.str k :: r)) from h)
  cases h2 with
  | cons x1 x2 =>
    cases x1
    exact ⟨a, _, rfl, h1, x2⟩
theorem datL_get {xs : List Vl} {i : Nat} {d : PyData} (h : (datL xs)[i]? = some d) : ∃ x, xs[i]? = some x ∧ d = x.dat := by
  rw [datL_map, List.getElem?_map] at h
  obtain ⟨x, h1, h2⟩ := Option.map_eq_some_iff.mp h
  exact ⟨x, h1, h2.symm⟩
theorem datM_get {xs : List (List Int × Vl)} {i : Nat} {d : PyData} (h : (datM xs)[i]? = some d) : ∃ k x, xs[i]? = some (k, x) ∧ d = .tuple [kd k, x.dat] := by
  rw [datM_map, List.getElem?_map] at h
  obtain ⟨x, h1, h2⟩ := Option.map_eq_some_iff.mp h
  exact ⟨x.1, x.2, h1, h2.symm⟩
theorem take_one {α : Type} {l : List α} {i : Nat} {x : α} (h : l[i]? = some x) : l.take (i + 1) = l.take i ++ [x] := by
  rw [List.take_succ, h]
  rfl
theorem str_list : ¬ ("map" : Str) = "list" := by decide +kernel
theorem evsL_len {xs : List Vl} : (Vl.ls xs).evs.length = (evsL xs).length + 2 := by
  show (evsL xs ++ [Ev.cl]).length + 1 = _
  rw [List.length_append]
  rfl
theorem evsM_len {xs : List (List Int × Vl)} : (Vl.mp xs).evs.length = (evsM xs).length + 2 := by
  show (evsM xs ++ [Ev.cl]).length + 1 = _
  rw [List.length_append]
  rfl
theorem tp_ev2 {H : Hp} {T : Addr} {k : Str} {v : V} {d : PyData} (h : H T = some (.tup [.str k, v])) (hv : Tp H v d) : Tp H (.ref T) (.tuple [.str k, d]) := .tup h (.cons (.str _) (.cons hv .nil))
theorem tp_cl {H : Hp} {T : Addr} (h : H T = some (.tup [.str "close"])) : Tp H (.ref T) Ev.cl.dat := .tup h (.cons (.str _) .nil)
theorem evD_len (es : List Ev) : (evD es).length = es.length := List.length_map _

theorem r_din {σ : St} {H : Hp} {Q : VK} {td ty : TE} (h : ty σ H fun y H1 => td σ H1 fun x H2 => ∃ a o, x = .ref a ∧ DGet H2 a y o ∧ Q (.bl o.isSome) H2) : tDIn ty td σ H Q := h
theorem r_dput {σ : St} {H : Hp} {n b c : St → Hp → Prop} {r : VK} {td ty tv : TE} (h : tv σ H fun v H1 => td σ H1 fun x H2 => ty σ H2 fun y H3 => ∃ a H4, x = .ref a ∧ DPut H3 a y v H4 ∧ n σ H4) : sDPut td ty tv ⟨n, r, b, c⟩ σ H := h

/-! ### heaps, step by step: what one change leaves, what many leave -/
/-- a alone is changed, and it was no tuple -/
def Eb (a : Addr) (H H' : Hp) : Prop := (∀ b, b ≠ a → H' b = H b) ∧ ∀ xs, H a ≠ some (.tup xs)
/-- all but o stays, tuples stay wherever they are -/
def Ch (o : List Addr) (H H' : Hp) : Prop := ∀ x u, H x = some u → (x ∈ o → ∃ xs, u = .tup xs) → H' x = some u
section
variable {o o2 : List Addr} {H H1 H2 H' : Hp} {a x : Addr} {u : HO} {xs : List V}
theorem Eb.get (e : Eb a H H') (n : x ≠ a) (h : H x = some u) : H' x = some u := (e.1 x n).trans h
theorem Eb.upd {o : HO} (h : H a = some u) (n : ∀ xs, u ≠ .tup xs) : Eb a H (upd H a o) := ⟨fun b hb => upd_ne hb, fun xs e => by rw [h] at e; exact n xs (Option.some.inj e)⟩
theorem Ch.get (c : Ch o H H') (n : x ∉ o) (h : H x = some u) : H' x = some u := c x u h fun z => absurd z n
theorem Ch.tup (c : Ch o H H') (h : H x = some (.tup xs)) : H' x = some (.tup xs) := c x _ h fun _ => ⟨xs, rfl⟩
theorem Ch.tk (c : Ch o H H') : Tk H H' := fun _ _ h => c.tup h
theorem Eb.tk (e : Eb a H H') : Tk H H' := fun b xs h => (e.1 b fun q => by rw [q] at h; exact e.2 xs h).trans h
theorem Ch.refl : Ch o H H := fun _ _ h _ => h
theorem Ch.same (s : Same H1 H2) (c : Ch o H H1) : Ch o H H2 := fun x u h n => s _ _ (c x u h n)
theorem Ch.eb (e : Eb a H1 H2) (m : a ∈ o) (c : Ch o H H1) : Ch o H H2 := fun x u h n => by
  have h1 := c x u h n
  by_cases q : x = a
  · subst q
    obtain ⟨xs, rfl⟩ := n m
    exact absurd h1 (e.2 xs)
  · exact e.get q h1
theorem Ch.ebn (e : Eb a H1 H2) (m : H a = none) (c : Ch o H H1) : Ch o H H2 := fun x u h n => e.get (fun q => by rw [q, m] at h; cases h) (c x u h n)
theorem Ch.ch (c2 : Ch o2 H1 H2) (m : ∀ x ∈ o2, x ∈ o ∨ H x = none) (c : Ch o H H1) : Ch o H H2 := fun x u h n => c2 x u (c x u h n) fun z => by
  rcases m x z with q | q
  · exact n q
  · rw [h] at q
    cases q
theorem Ch.mono (c : Ch o H H') (m : ∀ x ∈ o, x ∈ o2) : Ch o2 H H' := fun x u h n => c x u h fun z => n (m x z)
theorem Ch.trans (c : Ch o H H1) (c2 : Ch o H1 H2) : Ch o H H2 := c2.ch (fun x hx => .inl hx) c
theorem Ch.seq {K : Frg} (c : Ch o H H') (n : x ∉ o) (h : SqL K H x xs) : SqL K H' x xs := by
  rcases h with (h | ⟨u, h⟩) | h
  · exact .inl (.inl (c.get n h))
  · exact .inl (.inr ⟨u, c.get n h⟩)
  · exact .inr h
theorem Same.get (s : Same H H') (h : H x = some u) : H' x = some u := s _ _ h
theorem nm_nil : x ∉ ([] : List Addr) := by simp
theorem nm_cons (h : x ≠ a) (t : x ∉ o) : x ∉ a :: o := by simp [h, t]
theorem nm_app (h : x ∉ o) (t : x ∉ o2) : x ∉ o ++ o2 := by simp [h, t]
theorem ms_nil {p : Addr → Prop} : ∀ x ∈ ([] : List Addr), p x := by simp
theorem ms_cons {p : Addr → Prop} (h : p a) (t : ∀ x ∈ o, p x) : ∀ x ∈ a :: o, p x := fun x hx => by
  rcases List.mem_cons.mp hx with e | e
  · rw [e]; exact h
  · exact t x e
theorem ms_app {p : Addr → Prop} (h : ∀ x ∈ o, p x) (t : ∀ x ∈ o2, p x) : ∀ x ∈ o ++ o2, p x := fun x hx => by
  rcases List.mem_append.mp hx with e | e
  · exact h x e
  · exact t x e
theorem ne_il {C dx : Addr} {fs : List (Str × V)} {b : Addr} (h1 : H a = some (.ins C dx fs)) (h2 : H b = some (.lst xs)) : a ≠ b := fun e => by
  rw [e, h2] at h1
  cases h1
theorem ne_id {C dx : Addr} {fs : List (Str × V)} {b : Addr} {kvs : List (List Key × V)} (h1 : H a = some (.ins C dx fs)) (h2 : H b = some (.dT kvs)) : a ≠ b := fun e => by
  rw [e, h2] at h1
  cases h1
theorem ne_ld {b : Addr} {kvs : List (List Key × V)} (h1 : H a = some (.lst xs)) (h2 : H b = some (.dT kvs)) : a ≠ b := fun e => by
  rw [e, h2] at h1
  cases h1
/-- what is new to a later heap was new before, or is one's own -/
theorem Ch.fresh (c : Ch o H H') (h : H' x = none) : x ∈ o ∨ H x = none := by
  by_cases m : x ∈ o
  · exact .inl m
  · cases e : H x with
    | none => exact .inr rfl
    | some u =>
      rw [c.get m e] at h
      cases h
end
section
variable {σ : St} {H : Hp} {n b c : St → Hp → Prop} {r : VK} {Q : VK} {K : Frg} {a C dx : Addr} {fs : List (Str × V)} {f : Str} {v : V}
theorem r_fsetE {R : Hp → Prop} {fs' : List (Str × V)} (h : H a = some (.ins C dx fs)) (cl : Cls K C) (na : NoAttr K C f) (hl : fs.length < 1000) (e : putF f v fs = fs') (q : ∀ H', H' a = some (.ins C dx fs') → Eb a H H' → R H') :
    ∃ a' C dx fs, V.ref a = .ref a' ∧ H a' = some (.ins C dx fs) ∧ Cls K C ∧ NoAttr K C f ∧ fs.length < 1000 ∧ R (upd H a' (.ins C dx (putF f v fs))) := r_fset h cl na hl e (q _ upd_same (Eb.upd h fun xs e => by cases e))
theorem r_appE {p : Addr} {xs : List V} {y : V} (h : H p = some (.lst xs)) (hl : xs.length < sizeLine) (q : ∀ H', H' p = some (.lst (xs ++ [y])) → Eb p H H' → Q .non H') : rAppend (.ref p) [y] H Q := r_app h hl (q _ upd_same (Eb.upd h fun xs e => by cases e))
theorem r_popE {p : Addr} {xs : List V} {y : V} (h : H p = some (.lst (xs ++ [y]))) (q : ∀ H', H' p = some (.lst xs) → Eb p H H' → Q y H') : rPop (.ref p) [] H Q := by
  refine ⟨p, _, y, rfl, rfl, h, ?_, ?_⟩
  · rw [List.length_append]
    show (xs ++ [y])[xs.length + 1 - 1]? = some y
    simp
  · exact q _ (by rw [upd_same, List.dropLast_concat]) (Eb.upd h fun xs e => by cases e)
theorem r_orT {ta tb : TE} (h : ta σ H fun x H1 => ∃ k, TruV K x H1 k ∧ if k = true then Q x H1 else tb σ H1 Q) : tOrT K ta tb σ H Q := h
theorem pe_alt {X : Cx} {e : Expr} {t u : TE} (h1 : PE X e t) (h2 : PE X e u) : PE X e (fun σ H Q => t σ H Q ∨ u σ H Q) := by
  refine ⟨fun pins s σ H Q I h => ?_⟩
  rcases h with h | h
  · exact h1.run pins s σ H Q I h
  · exact h2.run pins s σ H Q I h
end
/-! ### new objects by what is known of the heap behind them -/
section
variable {X : Cx} {es : List Expr} {t : TA} {pos : Pos}
theorem pa_mono (ha : PA X es t) : PA X es (fun σ H R => ∃ R0 : List V → Hp → Prop, t σ H R0 ∧ ∀ xs H1, R0 xs H1 → R xs H1) :=
  ⟨fun pos pins s σ H Q I ⟨R0, h, im⟩ => wpAny_mono (ha.run pos pins s σ H R0 I h) (fun us s' ⟨xs, H', I', r, q⟩ => ⟨xs, H', I', r, im _ _ q⟩) fun _ _ x => x⟩
def tLstE (t : TA) : TE := fun σ H Q => t σ H fun xs H1 => xs.length ≤ sizeLine ∧ ∀ p H2, H1 p = none → H2 p = some (.lst xs) → Same H1 H2 → Q (.ref p) H2
def tTupE (t : TA) : TE := fun σ H Q => t σ H fun xs H1 => xs.length ≤ sizeLine ∧ ∀ p H2, H1 p = none → H2 p = some (.tup xs) → Same H1 H2 → Q (.ref p) H2
def tDnwE : TE := fun _ H Q => ∀ p H2, H p = none → H2 p = some (.dT []) → Same H H2 → Q (.ref p) H2
theorem pe_lstE {p : Pos} (ha : PA X es t) : PE X (.List es p) (tLstE t) := ⟨fun pins s σ H Q I h => (pe_lst (pa_mono ha)).run pins s σ H Q I ⟨_, h, fun xs H1 q => ⟨q.1, fun p np => q.2 p _ np upd_same (same_upd np _)⟩⟩⟩
theorem pe_tupE {k : Nat} {p : Pos} (ha : PA X es t) : PE X (.Tuple es k p) (tTupE t) := ⟨fun pins s σ H Q I h => (pe_tup (pa_mono ha)).run pins s σ H Q I ⟨_, h, fun xs H1 q => ⟨q.1, fun p np => q.2 p _ np upd_same (same_upd np _)⟩⟩⟩
theorem pe_dnwE {pos : Pos} : PE X (.Dict [] [] pos) tDnwE := ⟨fun pins s σ H Q I h => pe_dnewT.run pins s σ H Q I fun p np => h p _ np upd_same (same_upd np _)⟩
def rListE (K : Frg) : List V → Hp → VK → Prop := fun xs H Q => ∃ p ys, xs = [.ref p] ∧ (SqL K H p ys ∨ SqT K H p ys) ∧ ∀ l H2, H l = none → H2 l = some (.lst ys) → Same H H2 → Q (.ref l) H2
def rTupleE (K : Frg) : List V → Hp → VK → Prop := fun xs H Q => ∃ p ys, xs = [.ref p] ∧ ((SqL K H p ys ∧ ∀ l H2, H l = none → H2 l = some (.tup ys) → Same H H2 → Q (.ref l) H2) ∨ (SqT K H p ys ∧ Q (.ref p) H))
theorem call_list_ofE : CallR X (.type "list") (rListE X.K) := fun pins s σ H xs us Q I r ⟨p, ys, e, o, q⟩ => call_list_of pins s σ H xs us Q I r ⟨p, ys, e, o, fun l nl => q l _ nl upd_same (same_upd nl _)⟩
theorem call_tuple_ofE : CallR X (.type "tuple") (rTupleE X.K) := fun pins s σ H xs us Q I r ⟨p, ys, e, o⟩ => call_tuple_of pins s σ H xs us Q I r ⟨p, ys, e, o.imp (fun q => ⟨q.1, fun l nl => q.2 l _ nl upd_same (same_upd nl _)⟩) id⟩
end
section
variable {σ : St} {H : Hp} {Q : VK} {K : Frg} {t : TA}
theorem r_lstE (h : t σ H fun xs H1 => xs.length ≤ sizeLine ∧ ∀ p H2, H1 p = none → H2 p = some (.lst xs) → Same H1 H2 → Q (.ref p) H2) : tLstE t σ H Q := h
theorem r_tupE (h : t σ H fun xs H1 => xs.length ≤ sizeLine ∧ ∀ p H2, H1 p = none → H2 p = some (.tup xs) → Same H1 H2 → Q (.ref p) H2) : tTupE t σ H Q := h
theorem r_dnwE (h : ∀ p H2, H p = none → H2 p = some (.dT []) → Same H H2 → Q (.ref p) H2) : tDnwE σ H Q := h
theorem Same.ne {H : Hp} {p x : Addr} {u : HO} (np : H p = none) (h : H x = some u) : x ≠ p := fun e => by rw [e, np] at h; cases h
/-- list(xs) of a list -/
theorem r_toL {p : Addr} {ys : List V} (hs : SqL K H p ys) (q : ∀ l H2, H l = none → H2 l = some (.lst ys) → Same H H2 → Q (.ref l) H2) : rListE K [.ref p] H Q := ⟨p, ys, rfl, .inl hs, q⟩
theorem r_toLt {p : Addr} {ys : List V} (hs : SqT K H p ys) (q : ∀ l H2, H l = none → H2 l = some (.lst ys) → Same H H2 → Q (.ref l) H2) : rListE K [.ref p] H Q := ⟨p, ys, rfl, .inr hs, q⟩
theorem r_toT {p : Addr} {ys : List V} (hs : SqL K H p ys) (q : ∀ l H2, H l = none → H2 l = some (.tup ys) → Same H H2 → Q (.ref l) H2) : rTupleE K [.ref p] H Q := ⟨p, ys, rfl, .inl ⟨hs, q⟩⟩
end
/-- an expression whose value is known, whatever is wished of it -/
theorem r_joinE {σ : St} {H : Hp} {Q : VK} {t : TE} (v : V) (h1 : ∀ R : VK, R v H → t σ H R) (h : Q v H) : t σ H Q := h1 Q h

/-! ### a try whose body raises nothing -/
section
variable {X : Cx} {body : List Stmt} {h₀ : ExceptHandler} {hs : List ExceptHandler} {t : TS} {pos : Pos}
theorem ps_tryN0 (hn : ∀ e s, ¬ X.xe e s) (hb : PSs X body t) : PS X (.Try body (h₀ :: hs) [] [] pos) t := ps_try_never (u := tNext) hn hb pss_nil
end

/-! ### rows of things, entries -/
theorem map_get {α : Type} {f : α → V} {l : List α} {i : Nat} {x : V} (h : (l.map f)[i]? = some x) : ∃ e, l[i]? = some e ∧ x = f e ∧ l.take (i + 1) = l.take i ++ [e] := by
  rw [List.getElem?_map] at h
  obtain ⟨e, h1, h2⟩ := Option.map_eq_some_iff.mp h
  refine ⟨e, h1, h2.symm, ?_⟩
  rw [List.take_succ, h1]
  rfl
theorem dpa_map {α : Type} {K : Frg} {H : Hp} {f : α → V} {g : α → PyData} : ∀ {l : List α}, (∀ e ∈ l, Dp K H (f e) (g e)) → DpAll K H (l.map f) (l.map g)
  | [], _ => .nil
  | x :: l, h => .cons (h x (List.mem_cons_self ..)) (dpa_map fun e he => h e (List.mem_cons_of_mem _ he))
theorem tpa_map {α : Type} {H : Hp} {f : α → V} {g : α → PyData} : ∀ {l : List α}, (∀ e ∈ l, Tp H (f e) (g e)) → TpAll H (l.map f) (l.map g)
  | [], _ => .nil
  | x :: l, h => .cons (h x (List.mem_cons_self ..)) (tpa_map fun e he => h e (List.mem_cons_of_mem _ he))
theorem vl_ref {H : Hp} {v : V} {t : Vl} (h : Tp H v t.dat) : ∃ u, v = .ref u := by
  cases t <;> (obtain ⟨a, _, e, _⟩ := tp_tup h; exact ⟨a, e⟩)
theorem EntAt.tk {H H' : Hp} {e : Ent} (k : Tk H H') (h : EntAt H e) : EntAt H' e := ⟨k _ _ h.1, k _ _ h.2⟩

theorem small9m {n : Nat} (h : n ≤ 9000200) : n < sizeLine := Nat.lt_of_le_of_lt h (by rw [sizeLine_eq]; decide)
/-! ### deep equality -/
def rEqW (K : Frg) : R2 := fun x y H Q => ∃ d, Dp K H x d ∧ Dp K H y d ∧ d.canLay0 = true ∧ d.depth ≤ 150 ∧ Q (.bl true) H
def rNeW (K : Frg) : R2 := fun x y H Q => ∃ d, Dp K H x d ∧ Dp K H y d ∧ d.canLay0 = true ∧ d.depth ≤ 150 ∧ Q (.bl false) H
theorem op_eqW {X : Cx} {k : Nat} (hr : Room k X.A) : OpR X (compareOp .Eq) (rEqW X.K) := by
  intro pins s σ H x y v u Q I rx ry h
  obtain ⟨d, hd, he, sd, sl, q⟩ := h
  obtain ⟨as, r1⟩ := Dp.reads I d x v hd rx
  obtain ⟨bs, r2⟩ := Dp.reads I d y u he ry
  have := hr.un
  refine SeqAt.compareEq_reads r1 r2 sd sd (by rw [Nat.min_self]; omega) ?_
  rw [SeqAt.eqv_refl d sd]
  exact ⟨.bl true, H, I, rfl, q⟩
theorem op_neW {X : Cx} {k : Nat} (hr : Room k X.A) : OpR X (compareOp .NotEq) (rNeW X.K) := by
  intro pins s σ H x y v u Q I rx ry h
  obtain ⟨d, hd, he, sd, sl, q⟩ := h
  obtain ⟨as, r1⟩ := Dp.reads I d x v hd rx
  obtain ⟨bs, r2⟩ := Dp.reads I d y u he ry
  have := hr.un
  refine SeqAt.compareNe_reads r1 r2 sd sd (by rw [Nat.min_self]; omega) ?_
  rw [SeqAt.eqv_refl d sd]
  exact ⟨.bl false, H, I, rfl, q⟩
/-! ### what values look like to it -/
theorem lay_lf {k : Str} {r : List PyData} (h : Lf k r) : PyData.canLay0 (.str k) = true ∧ PyData.canLayAll0 r = true ∧ PyData.depthAll r ≤ 1 := by
  cases h with
  | null => exact ⟨by decide +kernel, rfl, Nat.zero_le _⟩
  | truth b => exact ⟨by decide +kernel, rfl, by simp [PyData.depthAll, PyData.depth]⟩
  | number m e => exact ⟨by decide +kernel, rfl, by simp [PyData.depthAll, PyData.depth]⟩
  | bytes os ho =>
    refine ⟨by decide +kernel, ?_, ?_⟩
    · show (PyData.canLay0 (kd os) && true) = true
      rw [Bool.and_true]
      exact lay_kd os
    · show max (kd os).depth 0 ≤ 1
      exact Nat.max_le.mpr ⟨depth_kd1 os, Nat.zero_le _⟩
  | text ps hp =>
    refine ⟨by decide +kernel, ?_, ?_⟩
    · show (PyData.canLay0 (kd ps) && true) = true
      rw [Bool.and_true]
      exact lay_kd ps
    · show max (kd ps).depth 0 ≤ 1
      exact Nat.max_le.mpr ⟨depth_kd1 ps, Nat.zero_le _⟩
theorem lay_list : PyData.canLay0 (.str "list") = true := by decide +kernel
theorem lay_map : PyData.canLay0 (.str "map") = true := by decide +kernel
mutual
theorem vl_lay : ∀ (n : Nat) (t : Vl), t.ok n → t.dat.canLay0 = true
  | n, .lf k r, h => by
    obtain ⟨h1, h2, _⟩ := lay_lf (show Lf k r by cases n <;> exact h)
    show (PyData.canLay0 (.str k) && PyData.canLayAll0 r) = true
    rw [h1, h2]
    rfl
  | 0, .ls xs, h => h.elim
  | n + 1, .ls xs, h => by
    show (PyData.canLay0 (.str "list") && (PyData.canLayAll0 (datL xs) && true)) = true
    rw [lay_list, vlL_lay n xs h.2]
    rfl
  | 0, .mp es, h => h.elim
  | n + 1, .mp es, h => by
    show (PyData.canLay0 (.str "map") && (PyData.canLayAll0 (datM es) && true)) = true
    rw [lay_map, vlM_lay n es h.2.2.2]
    rfl
theorem vlL_lay : ∀ (n : Nat) (xs : List Vl), vokL n xs → PyData.canLayAll0 (datL xs) = true
  | _, [], _ => rfl
  | n, x :: xs, h => by
    show (x.dat.canLay0 && PyData.canLayAll0 (datL xs)) = true
    rw [vl_lay n x h.1, vlL_lay n xs h.2]
    rfl
theorem vlM_lay : ∀ (n : Nat) (xs : List (List Int × Vl)), vokM n xs → PyData.canLayAll0 (datM xs) = true
  | _, [], _ => rfl
  | n, (k, x) :: xs, h => by
    show ((PyData.canLay0 (kd k) && (x.dat.canLay0 && true)) && PyData.canLayAll0 (datM xs)) = true
    rw [vl_lay n x h.1, vlM_lay n xs h.2, show PyData.canLay0 (kd k) = true from lay_kd k]
    rfl
end
mutual
theorem vl_depth : ∀ (n : Nat) (t : Vl), t.ok n → t.dat.depth ≤ 3 * n + 2
  | n, .lf k r, h => by
    obtain ⟨_, _, h3⟩ := lay_lf (show Lf k r by cases n <;> exact h)
    show max 0 (PyData.depthAll r) + 1 ≤ _
    omega
  | 0, .ls xs, h => h.elim
  | n + 1, .ls xs, h => by
    have q := vlL_depth n xs h.2
    show max 0 (max (PyData.depthAll (datL xs) + 1) 0) + 1 ≤ _
    omega
  | 0, .mp es, h => h.elim
  | n + 1, .mp es, h => by
    have q := vlM_depth n es h.2.2.2
    show max 0 (max (PyData.depthAll (datM es) + 1) 0) + 1 ≤ _
    omega
theorem vlL_depth : ∀ (n : Nat) (xs : List Vl), vokL n xs → PyData.depthAll (datL xs) ≤ 3 * n + 2
  | _, [], _ => Nat.zero_le _
  | n, x :: xs, h => by
    have q1 := vl_depth n x h.1
    have q2 := vlL_depth n xs h.2
    show max x.dat.depth (PyData.depthAll (datL xs)) ≤ _
    omega
theorem vlM_depth : ∀ (n : Nat) (xs : List (List Int × Vl)), vokM n xs → PyData.depthAll (datM xs) ≤ 3 * n + 3
  | _, [], _ => Nat.zero_le _
  | n, (k, x) :: xs, h => by
    have q1 := vl_depth n x h.1
    have q2 := vlM_depth n xs h.2
    have q3 := depth_kd1 k
    show max (max (kd k).depth (max x.dat.depth 0) + 1) (PyData.depthAll (datM xs)) ≤ _
    omega
end
/-! ### sorted lists of entries -/
theorem sorted_uniq : ∀ {zs ys : List (List Int × Vl)}, zs.Perm ys → (zs.map (·.1)).Pairwise (fun x y => HT.lexLt x y = true) → (ys.map (·.1)).Pairwise (fun x y => HT.lexLt x y = true) → zs = ys
  | [], ys, p, _, _ => (List.Perm.eq_nil p.symm).symm
  | z :: zs, [], p, _, _ => absurd p.length_eq (by simp)
  | z :: zs, y :: ys, p, h1, h2 => by
    rw [List.map_cons, List.pairwise_cons] at h1 h2
    have e : z = y := by
      rcases List.mem_cons.mp (p.mem_iff.mp (List.mem_cons_self (a := z) (l := zs))) with q | q
      · exact q
      · rcases List.mem_cons.mp (p.mem_iff.mpr (List.mem_cons_self (a := y) (l := ys))) with q2 | q2
        · exact q2.symm
        · have a := h2.1 z.1 (List.mem_map.mpr ⟨z, q, rfl⟩)
          have b := h1.1 y.1 (List.mem_map.mpr ⟨y, q2, rfl⟩)
          rw [lexLt_asym _ _ a] at b
          cases b
    subst e
    rw [sorted_uniq p.cons_inv h1.2 h2.2]


def EdAt (H : Hp) (e : Ent × Vl) : Prop := EntAt H e.1 ∧ Tp H (.ref e.1.u) e.2.dat
theorem EdAt.tk {H H' : Hp} {e : Ent × Vl} (k : Tk H H') (h : EdAt H e) : EdAt H' e := ⟨h.1.tk k, Tp.tk k _ _ h.2⟩
def pr (e : Ent × Vl) : List Int × Vl := (e.1.k, e.2)
def sp_list_of (K : Frg) : Sp := sp1 fun a H Q _ => ∃ p vs ts, a = .ref p ∧ H p = some (.lst vs) ∧ TpAll H vs (datL ts) ∧ ∀ v H', Tp H' v (Vl.ls ts).dat → Same H H' → Q v H'
def sp_map_of (K : Frg) : Sp := sp1 fun a H Q _ => ∃ p, ∃ es : List (Ent × Vl), a = .ref p ∧ H p = some (.lst (es.map fun e => V.ref e.1.t)) ∧ (∀ e ∈ es, EdAt H e) ∧ (es.map (·.1.k)).Nodup ∧ es.length ≤ 9000200 ∧
  ∀ v zs H', zs.Perm (es.map pr) → (zs.map (·.1)).Pairwise (fun x y => HT.lexLt x y = true) → Tp H' v (Vl.mp zs).dat → Same H H' → Q v H'
def ik (k : List Int) : List L2.Key := k.map Sum.inl
theorem ik_inj {a b : List Int} (h : ik a = ik b) : a = b := by
  induction a generalizing b with
  | nil =>
    cases b with
    | nil => rfl
    | cons y b => cases h
  | cons x a ih =>
    cases b with
    | nil => cases h
    | cons y b =>
      injection h with h1 h2
      injection h1 with h1
      rw [h1, ih h2]
def tbl (es : List (Ent × Vl)) : List (List L2.Key × V) := es.map fun e => (ik e.1.k, V.ref e.1.u)
theorem tbl_none {k : List Int} : ∀ {es : List (Ent × Vl)}, (∀ e ∈ es, e.1.k ≠ k) → valV (tbl es) (ik k) = none
  | [], _ => rfl
  | e :: es, h => by
    show valV ((ik e.1.k, V.ref e.1.u) :: tbl es) (ik k) = none
    rw [valV_neg (fun q => h e (List.mem_cons_self ..) (ik_inj q))]
    exact tbl_none fun x hx => h x (List.mem_cons_of_mem _ hx)
theorem tbl_some : ∀ {es : List (Ent × Vl)} {e : Ent × Vl}, (es.map (·.1.k)).Nodup → e ∈ es → valV (tbl es) (ik e.1.k) = some (.ref e.1.u)
  | [], _, _, h => absurd h (by simp)
  | x :: es, e, hn, h => by
    rw [List.map_cons, List.nodup_cons] at hn
    show valV ((ik x.1.k, V.ref x.1.u) :: tbl es) (ik e.1.k) = _
    rcases List.mem_cons.mp h with q | q
    · subst q
      rw [valV_pos rfl]
    · rw [valV_neg (fun z => hn.1 (by rw [ik_inj z]; exact List.mem_map.mpr ⟨e, q, rfl⟩))]
      exact tbl_some hn.2 q
theorem tbl_put {k : List Int} {v : V} {es : List (Ent × Vl)} (h : ∀ e ∈ es, e.1.k ≠ k) : putK (tbl es) (ik k) v = tbl es ++ [(ik k, v)] := by
  unfold putK
  rw [valV_any, tbl_none h]
  rfl
theorem take_mem {α : Type} {l : List α} {i : Nat} {e : α} (h : e ∈ l.take i) : ∃ j, j < i ∧ l[j]? = some e := by
  obtain ⟨j, hj, e2⟩ := List.getElem_of_mem h
  rw [List.getElem_take] at e2
  rw [List.length_take] at hj
  exact ⟨j, by omega, by rw [List.getElem?_eq_getElem (by omega), e2]⟩
theorem tpa_eds {H : Hp} {cs : List (Ent × Vl)} (h : ∀ e ∈ cs, EdAt H e) : TpAll H (cs.map fun e => V.ref e.1.t) (datM (cs.map pr)) := by
  rw [datM_map, List.map_map]
  exact tpa_map fun e he => .tup (h e he).1.1 (.cons (tp_kd (h e he).1.2) (.cons (h e he).2 .nil))
theorem r_dget {σ : St} {H : Hp} {Q : VK} {td ty : TE} (h : td σ H fun x H1 => ty σ H1 fun y H2 => ∃ a v, x = .ref a ∧ DGet H2 a y (some v) ∧ Q v H2) : tDGet td ty σ H Q := h
section
variable {P : Program} {w : World} {K : PySem.W.Frag} {mg : Str → Option Value} {base : Heap} {f : Addr} {fd : FuncData}
theorem ok_list_of (F : FunD K "list_of" "list_of" (defArgs s_list_of) (defBody s_list_of) (defScope s_list_of) [] [] (glAd "list_of" K) fd) (m : mg "list_of" = some (.ref (glAd "list_of" K))) (nb : Nm K mg) : Cal P w K mg base 1 "list_of" (sp_list_of K) [] := by
  refine calD F m sc_list_of (fun _ _ _ _ _ _ us hl => match us, hl with | [_], _ => rfl) len1 (fun cdv A outer s H vs Q E hr h => ⟨_, (pss_one (ps_ret (pe_tup (pa_cons pe_str (pa_cons (pe_callTy call_tuple_of (by rfl) nb.tuple (by decide +kernel) (pa_cons (pv 0) pa_nil)) pa_nil))))), ?_⟩)
  obtain ⟨_, rfl, p, vs, ts, rfl, hp, tp, h⟩ := h
  walk_at "rd"
  refine ⟨p, _, rfl, .inl ⟨SqL.of hp, fun t nt => ?_⟩⟩
  walk_at "rd"
  refine ⟨by show 2 ≤ sizeLine; decide, fun q nq => ?_⟩
  have s := (same_upd nt (.tup vs)).trans (same_upd nq (.tup [.str "list", .ref t]))
  exact h (.ref q) _ (.tup upd_same (.cons (.str _) (.cons (.tup (same_upd nq _ _ _ upd_same) (TpAll.tk (Same.tk s) _ _ tp)) .nil))) s
theorem ok_map_of (F : FunD K "map_of" "map_of" (defArgs s_map_of) (defBody s_map_of) (defScope s_map_of) [] [] (glAd "map_of" K) fd) (m : mg "map_of" = some (.ref (glAd "map_of" K))) (nb : Nm K mg) : Cal P w K mg base 1 "map_of" (sp_map_of K) [] := by
  refine calD F m sc_map_of (fun _ _ _ _ _ _ us hl => match us, hl with | [_], _ => rfl) len1 (fun cdv A outer s H vs Q E hr h => ⟨_, (pss_cons (ps_set (i := 1) sc_map_of.nd rfl (Or.inr rfl) pe_dnewT)
    (pss_cons (ps_for PassesOwn.never rfl (pi_list (pv 0)) (pg_tup rfl (pgs_cons (pg_name (i := 2) sc_map_of.nd rfl (Or.inl rfl)) (pgs_cons (pg_name (i := 3) sc_map_of.nd rfl (Or.inl rfl)) pgs_nil)))
    (pss_cons (ps_set (i := 4) sc_map_of.nd rfl (Or.inl rfl) (pe_callTy call_tuple_of (by rfl) nb.tuple (by decide +kernel) (pa_cons (pv 2) pa_nil)))
    (pss_cons (ps_if (pt_cmp (pc_din (hu_of hr) (pv 4) (pv 1)))
    (pss_one ps_never)
    pss_nil)
    (pss_one (ps_dput (hu_of hr) (pv 1) (pv 4) (pv 3) rfl)))))
    (pss_one (ps_ret (pe_tup (pa_cons pe_str (pa_cons (pe_callTy call_tuple_of (by rfl) nb.tuple (by decide +kernel) (pa_cons (pe_lc (own := [("key", 4)]) (g := gName 4) (tt := tYes) rfl sc_map_of.nd (pi_list (pe_callB (cr_sortedTD rfl hr.units) (by rfl) nb.sorted (by decide +kernel) (pa_cons (pv 1) pa_nil))) (blkOk_by (N := ["entries", "table", "points", "value", "key"]) (sc := defScope s_map_of) (by decide +kernel)) (fun _ _ _ _ _ => pg_name (i := 4) sc_map_of.nd rfl (Or.inl rfl)) (fun _ _ _ _ _ => pts_nil) (fun _ _ _ _ _ => (pe_tup (pa_cons (pv 4) (pa_cons (pe_dget (hu_of hr) (pv 1) (pv 4) (fun _ _ => rfl)) pa_nil))))) pa_nil)) pa_nil))))))), ?_⟩)
  obtain ⟨_, rfl, p, es, rfl, hp, he, hn, hl, h⟩ := h
  walk_at "rd"
  intro d nd
  have s1 := same_upd nd (.dT [])
  have hd1 : upd H d (.dT []) d = some (.dT (tbl [])) := upd_same
  generalize upd H d (.dT []) = H1 at s1 hd1 ⊢
  walk_at "rd"
  refine ⟨p, rfl, ⟨_, SqL.of (s1 _ _ hp)⟩, r_eachL (xs := es.map fun e => V.ref e.1.t) (fun i σ H' => ∃ (y2 y3 y4 : Option V), Same H H' ∧ H' d = some (.dT (tbl (es.take i))) ∧ σ = [some (.ref p), some (.ref d), y2, y3, y4]) ⟨none, none, none, s1, hd1, rfl⟩ ?_ ?_ ?_⟩
  · rintro i σ H' ⟨y2, y3, y4, s2, _⟩
    exact SqL.of (s2 _ _ hp)
  · rintro i x σ H2 hx ⟨y2, y3, y4, s2, hd2, rfl⟩
    obtain ⟨e, hi, rfl, et⟩ := map_get hx
    obtain ⟨⟨g1, g2⟩, g3⟩ := (he e (List.mem_of_getElem? hi)).tk (Same.tk s2)
    have hno : ∀ x ∈ es.take i, x.1.k ≠ e.1.k := fun x hx q => by
      obtain ⟨j, hj, hxj⟩ := take_mem hx
      have hpw := List.pairwise_iff_getElem.mp hn
      have h1 : j < es.length := (List.getElem?_eq_some_iff.mp hxj).1
      have h2 : i < es.length := (List.getElem?_eq_some_iff.mp hi).1
      have h3 := hpw j i (by rw [List.length_map]; exact h1) (by rw [List.length_map]; exact h2) hj
      rw [List.getElem_map, List.getElem_map, (List.getElem?_eq_some_iff.mp hxj).2, (List.getElem?_eq_some_iff.mp hi).2] at h3
      exact h3 q
    refine r_gtup (SqT.of g1) rfl ?_
    walk_at "rd"
    refine ⟨e.1.q, _, rfl, .inr ⟨SqT.of g2, ?_⟩⟩
    walk_at "rd"
    have eb : H2 e.1.q = some (.tup ((ik e.1.k).map kV)) := by
      rw [g2]
      unfold ik
      rw [kv_ints]
    refine r_din ?_
    walk_at "rd"
    refine ⟨d, _, rfl, DGet.t hd2 eb, ?_⟩
    rw [tbl_none hno]
    refine r_bl (r_iteF ?_)
    walk_at "rd"
    refine r_dput ?_
    walk_at "rd"
    refine ⟨d, _, rfl, DPut.t hd2 eb (small9m (by unfold tbl; rw [List.length_map, List.length_take]; omega)), ?_⟩
    refine ⟨_, _, _, same_away s2 nd, ?_, rfl⟩
    rw [upd_same, tbl_put hno, et]
    unfold tbl
    rw [List.map_append]
    rfl
  · rintro σ H2 ⟨y2, y3, y4, s2, hd2, rfl⟩
    rw [List.length_map, List.take_length] at hd2
    walk_at "rd"
    refine ⟨d, _, es.map (·.1.k), rfl, hd2, ?_, fun l qs pq sq hq nl => ?_⟩
    · unfold tbl
      rw [List.map_map, List.map_map]
      rfl
    obtain ⟨zs, pz, ez⟩ := perm_up (fun e : Ent × Vl => e.1.k) pq
    have s3 := same_upd nl (.lst (qs.map fun z => V.ref z.1))
    have hl3 : upd H2 l (.lst (qs.map fun z => V.ref z.1)) l = some (.lst (qs.map fun z => V.ref z.1)) := upd_same
    generalize upd H2 l (.lst (qs.map fun z => V.ref z.1)) = H3 at s3 hl3 ⊢
    refine ⟨l, rfl, ⟨_, SqL.of hl3⟩, fun D nD => ?_⟩
    refine lc_list (xs := qs.map fun z => V.ref z.1) (fun j H' => ∃ cs : List (Ent × Vl), Same H3 H' ∧ H' D = some (.lst (cs.map fun c => V.ref c.1.t)) ∧ (∀ c ∈ cs, EdAt H' c) ∧ cs.map pr = (zs.take j).map pr) ⟨[], same_upd nD _, upd_same, fun _ h => absurd h (by simp), rfl⟩ (fun j H' _ hh => by obtain ⟨cs, h1, _⟩ := hh; exact SqL.of (h1 _ _ hl3)) ?_ ?_
    · rintro j x H4 hx ⟨cs, s4, hD4, hc, ec⟩
      obtain ⟨z, hj, rfl, _⟩ := map_get hx
      have hjz : (zs.map fun e => e.1.k)[j]? = some z.2 := by
        rw [ez, List.getElem?_map, hj]
        rfl
      rw [List.getElem?_map] at hjz
      obtain ⟨e, hje, hke⟩ := Option.map_eq_some_iff.mp hjz
      have hem : e ∈ es := pz.mem_iff.mp (List.mem_of_getElem? hje)
      have hqz := s4 _ _ (s3 _ _ (hq z (List.mem_of_getElem? hj)))
      have hlc : cs.length ≤ 9000200 := by
        have q := congrArg List.length ec
        rw [List.length_map, List.length_map, List.length_take, pz.length_eq] at q
        omega
      walk_at "rd"
      refine ⟨rfl, ?_⟩
      walk_at "rd"
      have eb : H4 z.1 = some (.tup ((ik z.2).map kV)) := by
        rw [hqz]
        unfold ik
        rw [kv_ints]
      refine r_dget ?_
      walk_at "rd"
      refine ⟨d, .ref e.1.u, rfl, ?_, ?_⟩
      · have q := DGet.t (s4 _ _ (s3 _ _ hd2)) eb
        rw [← hke, tbl_some hn hem] at q
        exact q
      refine ⟨by show 2 ≤ sizeLine; decide, fun T nT => ?_⟩
      have s5 := same_upd nT (.tup [.ref z.1, .ref e.1.u])
      have hD5 := s5 _ _ hD4
      have tk5 := (Same.tk s5).trans (tk_put (o := .lst ((cs.map fun c => V.ref c.1.t) ++ [.ref T])) hD5)
      refine ⟨_, hD5, small9m (by rw [List.length_map]; have q := congrArg List.length ec; rw [List.length_map, List.length_map, List.length_take, pz.length_eq] at q; have := (List.getElem?_eq_some_iff.mp hje).1; rw [pz.length_eq] at this; omega), cs ++ [(⟨T, z.1, e.1.u, z.2⟩, e.2)], same_away (s4.trans s5) nD, ?_, fun c hcm => ?_, ?_⟩
      · rw [upd_same, List.map_append]
        rfl
      · rcases List.mem_append.mp hcm with q | q
        · exact (hc c q).tk tk5
        · have e5 : c = (⟨T, z.1, e.1.u, z.2⟩, e.2) := by simpa using q
          subst e5
          refine ⟨⟨tk_put hD5 _ _ upd_same, tk5 _ _ hqz⟩, ?_⟩
          exact Tp.tk tk5 _ _ (Tp.tk (Same.tk ((s2.trans s3).trans s4)) _ _ (he e hem).2)
      · rw [List.map_append, ec, take_one hje, List.map_append]
        show _ ++ [(z.2, e.2)] = _ ++ [(e.1.k, e.2)]
        rw [← hke]
    · rintro H4 ⟨cs, s4, hD4, hc, ec⟩
      rw [List.length_map] at ec
      have hql : qs.length = zs.length := by
        have q := congrArg List.length ez
        rw [List.length_map, List.length_map] at q
        exact q.symm
      rw [hql, List.take_length] at ec
      walk_at "rd"
      refine ⟨D, _, rfl, .inl ⟨SqL.of hD4, fun t nt => ?_⟩⟩
      walk_at "rd"
      refine ⟨by show 2 ≤ sizeLine; decide, fun q nq => ?_⟩
      have s6 := (same_upd nt (.tup (cs.map fun c => V.ref c.1.t))).trans (same_upd nq (.tup [.str "map", .ref t]))
      refine h (.ref q) (zs.map pr) _ (pz.map pr) ?_ (.tup upd_same (.cons (.str _) (.cons (.tup (same_upd nq _ _ _ upd_same) ?_) .nil))) (((s2.trans s3).trans s4).trans s6)
      · have e2 : (zs.map pr).map (·.1) = qs.map (·.2) := by
          rw [List.map_map, ← ez]
          rfl
        rw [e2]
        exact sq
      · rw [← ec]
        have hc6 : ∀ c ∈ cs, EdAt _ c := fun c hm => (hc c hm).tk (Same.tk s6)
        exact tpa_eds hc6
end

/-! ### frames -/



def FrAt (K : Frg) (H : Hp) (a l : Addr) (kind : Str) (key : V) (vs : List V) : Prop := ∃ dx, H a = some (.ins (C_Frame K) dx (fs_Frame (.str kind) key (.ref l))) ∧ H l = some (.lst vs)
theorem fr_ne {K : Frg} {H : Hp} {a l : Addr} {kind : Str} {key : V} {vs : List V} (h : FrAt K H a l kind key vs) : l ≠ a := by
  obtain ⟨dx, h1, h2⟩ := h
  rintro rfl
  rw [h1] at h2
  cases h2
theorem FrAt.same {K : Frg} {H H' : Hp} {a l : Addr} {kind : Str} {key : V} {vs : List V} (s : Same H H') (h : FrAt K H a l kind key vs) : FrAt K H' a l kind key vs := by
  obtain ⟨dx, h1, h2⟩ := h
  exact ⟨dx, s _ _ h1, s _ _ h2⟩
def sp_Frame___init__ (K : Frg) : Sp := sp2 fun p o H Q _ => ∃ a dx kind, p = .ref a ∧ o = .str kind ∧ H a = some (.ins (C_Frame K) dx []) ∧ ∀ l H', H l = none → l ≠ a → FrAt K H' a l kind .non [] → (∀ b u, b ≠ a → H b = some u → H' b = some u) → Q .non H'
def sp_Frame_put (K : Frg) : Sp := sp2 fun p o H Q _ => ∃ a l kind key vs, p = .ref a ∧ FrAt K H a l kind key vs ∧ vs.length ≤ 9000100 ∧
  (kind = "map" → ∀ T H', H T = none → H' T = some (.tup [key, o]) → FrAt K H' a l kind key (vs ++ [.ref T]) → Bt l H H' → Q .non H') ∧
  (kind ≠ "map" → ∀ H', FrAt K H' a l kind key (vs ++ [o]) → Bt l H H' → Q .non H')
def sp_Frame_built (K : Frg) : Sp := sp1 fun p H Q _ => ∃ a l kind key vs, p = .ref a ∧ FrAt K H a l kind key vs ∧
  (kind = "map" → ∃ es : List (Ent × Vl), vs = es.map (fun e => V.ref e.1.t) ∧ (∀ e ∈ es, EdAt H e) ∧ (es.map (·.1.k)).Nodup ∧ es.length ≤ 9000200 ∧
    ∀ v zs H', zs.Perm (es.map pr) → (zs.map (·.1)).Pairwise (fun x y => HT.lexLt x y = true) → Tp H' v (Vl.mp zs).dat → Same H H' → Q v H') ∧
  (kind ≠ "map" → ∃ ts, TpAll H vs (datL ts) ∧ ∀ v H', Tp H' v (Vl.ls ts).dat → Same H H' → Q v H')
section
variable {P : Program} {w : World} {K : PySem.W.Frag} {mg : Str → Option Value} {base : Heap} {f : Addr} {fd : FuncData}
theorem ok_Frame___init__ (F : FunD K "__init__" "Frame.__init__" (defArgs s_Frame___init__) (defBody s_Frame___init__) (defScope s_Frame___init__) [] [] (meAd "Frame" "__init__" K) fd) (nb : Nm K mg) : Mak P w K mg base 1 "Frame" (C_Frame K) (sp_Frame___init__ K) [] := by
  refine makD F nb.mk_Frame nb.g_Frame sc_Frame___init__ (fun _ _ _ _ _ _ us hl => match us, hl with | [_, _], _ => rfl) len2 (fun cdv A outer s H vs Q E hr h => ⟨_, (pss_cons (ps_fld (pv 0) (pv 1) rfl)
    (pss_cons (ps_fld (pv 0) pe_non rfl)
    (pss_one (ps_fld (pv 0) (pe_lst pa_nil) rfl)))), ?_⟩)
  obtain ⟨_, _, rfl, a, dx, kind, rfl, rfl, hA, h⟩ := h
  walk_at "rd"
  refine r_fsetK hA nb.cl_Frame nb.na_Frame_kind (by decide) (in_Frame_kind) fun H1 hA1 f1 => ?_
  walk_at "rd"
  refine r_fsetK hA1 nb.cl_Frame nb.na_Frame_key (by simp) (in_Frame_key) fun H2 hA2 f2 => ?_
  walk_at "rd"
  refine ⟨Nat.zero_le _, fun l hl => ?_⟩
  have hne : l ≠ a := fun z => by rw [z, hA2] at hl; cases hl
  have hl0 : H l = none := by
    rw [f2 l hne, f1 l hne] at hl
    exact hl
  have hA3 : upd H2 l (.lst []) a = some _ := (upd_ne (Ne.symm hne)).trans hA2
  have hL3 : upd H2 l (.lst []) l = some (.lst []) := upd_same
  have f3 : ∀ b u, b ≠ a → H b = some u → upd H2 l (.lst []) b = some u := fun b u h1 h2 => same_upd hl _ b u (by rw [f2 b h1, f1 b h1]; exact h2)
  generalize upd H2 l (.lst []) = H3 at hA3 hL3 f3 ⊢
  walk_at "rd"
  refine r_fsetK hA3 nb.cl_Frame nb.na_Frame_inside (by simp) (in_Frame_inside) fun H4 hA4 f4 => ?_
  exact h l H4 hl0 hne ⟨dx, hA4, by rw [f4 l hne]; exact hL3⟩ fun b u h1 h2 => by rw [f4 b h1]; exact f3 b u h1 h2
theorem ok_Frame_put (F : FunD K "put" "Frame.put" (defArgs s_Frame_put) (defBody s_Frame_put) (defScope s_Frame_put) [] [] (meAd "Frame" "put" K) fd) (nb : Nm K mg) : Met P w K mg base 1 (C_Frame K) "put" (sp_Frame_put K) [] := by
  refine metD F nb.cl_Frame nb.me_Frame_put sc_Frame_put (fun _ _ _ _ _ _ us hl => match us, hl with | [_, _], _ => rfl) len2 (fun cdv A outer s H vs Q E hr h => ⟨_, (pss_one (ps_if (pt_cmpR op_eq (pe_fld (pv 0) rfl) pe_str (nomark _))
    (pss_one (ps_expr (pe_bm PySem.F.plainAttrs_list PySem.F.slot_list_append PySem.F.type_list_append mt_append (pe_fld (pv 0) rfl) (pa_cons (pe_tup (pa_cons (pe_fld (pv 0) rfl) (pa_cons (pv 1) pa_nil))) pa_nil))))
    (pss_one (ps_expr (pe_bm PySem.F.plainAttrs_list PySem.F.slot_list_append PySem.F.type_list_append mt_append (pe_fld (pv 0) rfl) (pa_cons (pv 1) pa_nil)))))), ?_⟩)
  obtain ⟨_, v, rfl, a, l, kind, key, vs, rfl, hF, hlen, h1, h2⟩ := h
  have hne := fr_ne hF
  obtain ⟨dx, hA, hL⟩ := id hF
  walk_at "rd"
  refine r_fget hA nb.cl_Frame nb.na_Frame_kind lk_Frame_kind ?_
  walk_at "rd"
  refine r_ite (fun c => ?_) (fun c => ?_)
  · walk_at "rd"
    refine r_fget hA nb.cl_Frame nb.na_Frame_inside lk_Frame_inside ?_
    refine ⟨tyL hL, ?_⟩
    walk_at "rd"
    refine r_fget hA nb.cl_Frame nb.na_Frame_key lk_Frame_key ?_
    walk_at "rd"
    refine ⟨by show 2 ≤ sizeLine; decide, fun T nT => ?_⟩
    have s1 := same_upd nT (.tup [key, v])
    walk_at "rd"
    refine r_appK (s1 _ _ hL) (small9m (by omega) |> fun z => z) fun H2 hL2 f2 => ?_
    have lT : T ≠ l := fun e => by rw [e, hL] at nT; cases nT
    exact h1 c T H2 nT (by rw [f2 T lT, upd_same]) ⟨dx, by rw [f2 a (Ne.symm hne)]; exact s1 _ _ hA, hL2⟩ fun b u n1 z => by rw [f2 b n1]; exact s1 _ _ z
  · walk_at "rd"
    refine r_fget hA nb.cl_Frame nb.na_Frame_inside lk_Frame_inside ?_
    refine ⟨tyL hL, ?_⟩
    walk_at "rd"
    refine r_appK hL (small9m (by omega)) fun H2 hL2 f2 => ?_
    exact h2 c H2 ⟨dx, by rw [f2 a (Ne.symm hne)]; exact hA, hL2⟩ fun b u n1 z => by rw [f2 b n1]; exact z
theorem ok_Frame_built (F : FunD K "built" "Frame.built" (defArgs s_Frame_built) (defBody s_Frame_built) (defScope s_Frame_built) [] [] (meAd "Frame" "built" K) fd) (nb : Nm K mg) (c_list_of : Cal P w K mg base 1 "list_of" (sp_list_of K) []) (c_map_of : Cal P w K mg base 1 "map_of" (sp_map_of K) []) : Met P w K mg base 2 (C_Frame K) "built" (sp_Frame_built K) [] := by
  refine metD F nb.cl_Frame nb.me_Frame_built sc_Frame_built (fun _ _ _ _ _ _ us hl => match us, hl with | [_], _ => rfl) len1 (fun cdv A outer s H vs Q E hr h => ⟨_, (pss_cons (ps_if (pt_cmpR op_eq (pe_fld (pv 0) rfl) pe_str (nomark _))
    (pss_one (ps_ret (pe_c c_map_of hr (by decide) rfl (pa_cons (pe_fld (pv 0) rfl) pa_nil))))
    pss_nil)
    (pss_one (ps_ret (pe_c c_list_of hr (by decide) rfl (pa_cons (pe_fld (pv 0) rfl) pa_nil))))), ?_⟩)
  obtain ⟨_, rfl, a, l, kind, key, vs, rfl, ⟨dx, hA, hL⟩, h1, h2⟩ := h
  walk_at "rd"
  refine r_fget hA nb.cl_Frame nb.na_Frame_kind lk_Frame_kind ?_
  walk_at "rd"
  refine r_ite (fun c => ?_) (fun c => ?_)
  · obtain ⟨es, rfl, he, hn, hl, hq⟩ := h1 c
    walk_at "rd"
    refine r_fget hA nb.cl_Frame nb.na_Frame_inside lk_Frame_inside ?_
    walk_at "rd"
    exact ⟨_, rfl, l, es, rfl, hL, he, hn, hl, hq⟩
  · obtain ⟨ts, ht, hq⟩ := h2 c
    walk_at "rd"
    refine r_fget hA nb.cl_Frame nb.na_Frame_inside lk_Frame_inside ?_
    walk_at "rd"
    exact ⟨_, rfl, l, vs, ts, rfl, hL, ht, hq⟩
end

/-! ### the builder, as it ought to be -/
structure Pf where
  m : Bool
  k : Option (List Int)
  ins : List (List Int × Vl)
structure Bs where
  fs : List Pf
  val : Option Vl
def sortM (es : List (List Int × Vl)) : List (List Int × Vl) := es.mergeSort fun a b => !HT.lexLt b.1 a.1
theorem sortM_perm (es : List (List Int × Vl)) : (sortM es).Perm es := List.mergeSort_perm es _
theorem sortM_strict {es : List (List Int × Vl)} (h : (es.map (·.1)).Nodup) : ((sortM es).map (·.1)).Pairwise (fun x y => HT.lexLt x y = true) := by
  have h1 := List.pairwise_mergeSort (le := fun (a b : List Int × Vl) => !HT.lexLt b.1 a.1) (fun a b c q1 q2 => by
    simp only [Bool.not_eq_true'] at q1 q2 ⊢
    exact lexLt_ntr _ _ _ q1 q2) (fun a b => by
    cases q : HT.lexLt b.1 a.1 with
    | false => rfl
    | true => rw [lexLt_asym _ _ q]; rfl) es
  refine strict_of ?_ (((sortM_perm es).map (·.1)).nodup_iff.mpr h)
  rw [List.pairwise_map]
  exact h1.imp fun {a b} q => by simpa using q
theorem strict_nodup {l : List (List Int)} (h : l.Pairwise (fun x y => HT.lexLt x y = true)) : l.Nodup := h.imp fun {a b} q e => by
  subst e
  rw [lexLt_irr] at q
  cases q
theorem sortM_uniq {zs es : List (List Int × Vl)} (p : zs.Perm es) (s : (zs.map (·.1)).Pairwise (fun x y => HT.lexLt x y = true)) : zs = sortM es :=
  sorted_uniq (p.trans (sortM_perm es).symm) s (sortM_strict ((p.map (·.1)).nodup_iff.mp (strict_nodup s)))
theorem sortM_id {es : List (List Int × Vl)} (s : (es.map (·.1)).Pairwise (fun x y => HT.lexLt x y = true)) : sortM es = es := (sortM_uniq (List.Perm.refl es) s).symm
def Bs.putv (st : Bs) (v : Vl) : Bs := match st.fs with
  | [] => ⟨[], some v⟩
  | f :: r => ⟨⟨f.m, f.k, f.ins ++ [(if f.m then f.k.getD [] else [], v)]⟩ :: r, st.val⟩
def Pf.built (f : Pf) : Vl := if f.m then .mp (sortM f.ins) else .ls (f.ins.map (·.2))
def Bs.step (st : Bs) : Ev → Bs
  | .op m => ⟨⟨m, none, []⟩ :: st.fs, st.val⟩
  | .ky k => match st.fs with
    | [] => st
    | f :: r => ⟨⟨f.m, some k, f.ins⟩ :: r, st.val⟩
  | .lf k r => st.putv (.lf k r)
  | .cl => match st.fs with
    | [] => st
    | f :: r => (Bs.mk r st.val).putv f.built
def Bs.ready (st : Bs) : Prop := ∀ f r, st.fs = f :: r → (f.m = true → ∃ k, f.k = some k) ∧ f.ins.length ≤ 9000000
def Bs.valid (st : Bs) : Ev → Prop
  | .op _ => st.fs.length ≤ 900
  | .ky _ => ∃ f r, st.fs = f :: r
  | .lf _ _ => st.ready
  | .cl => ∃ f r, st.fs = f :: r ∧ (f.m = true → (f.ins.map (·.1)).Nodup) ∧ (f.m = true → f.ins.length ≤ 9000001) ∧ (Bs.mk r st.val).ready
/-! ### .. and where it stands -/
structure Cf where
  a : Addr
  l : Addr
  f : Pf
def FmAt (K : Frg) (H : Hp) (c : Cf) : Prop := ∃ key vs, FrAt K H c.a c.l (kindOf_ c.f.m) key vs ∧ (∀ k, c.f.k = some k → ∃ q, key = .ref q ∧ H q = some (.tup (k.map V.int))) ∧
  (c.f.m = true → ∃ es : List (Ent × Vl), vs = es.map (fun e => V.ref e.1.t) ∧ (∀ e ∈ es, EdAt H e) ∧ c.f.ins = es.map pr) ∧ (c.f.m = false → TpAll H vs (datL (c.f.ins.map (·.2))))
theorem FmAt.keep {K : Frg} {H H' : Hp} {c : Cf} (h : FmAt K H c) (ha : ∀ u, H c.a = some u → H' c.a = some u) (hl : ∀ u, H c.l = some u → H' c.l = some u) (tk : Tk H H') : FmAt K H' c := by
  obtain ⟨key, vs, ⟨dx, h1, h2⟩, h3, h4, h5⟩ := h
  refine ⟨key, vs, ⟨dx, ha _ h1, hl _ h2⟩, fun k e => ?_, fun e => ?_, fun e => TpAll.tk tk _ _ (h5 e)⟩
  · obtain ⟨q, e1, e2⟩ := h3 k e
    exact ⟨q, e1, tk _ _ e2⟩
  · obtain ⟨es, e1, e2, e3⟩ := h4 e
    exact ⟨es, e1, fun x hx => (e2 x hx).tk tk, e3⟩
def ownC (cs : List Cf) : List Addr := cs.flatMap fun c => [c.a, c.l]
def own (b fl : Addr) (cs : List Cf) : List Addr := b :: fl :: ownC cs
theorem ownC_mem {cs : List Cf} {c : Cf} (h : c ∈ cs) : c.a ∈ ownC cs ∧ c.l ∈ ownC cs := ⟨List.mem_flatMap.mpr ⟨c, h, by simp⟩, List.mem_flatMap.mpr ⟨c, h, by simp⟩⟩
def ValAt (H : Hp) (v : V) : Option Vl → Prop
  | none => v = .non
  | some t => Tp H v t.dat
theorem ValAt.tk {H H' : Hp} {v : V} (k : Tk H H') : ∀ {o : Option Vl}, ValAt H v o → ValAt H' v o
  | none, h => h
  | some t, h => Tp.tk k _ _ h
structure BAt (K : Frg) (H : Hp) (b fl : Addr) (st : Bs) (cs : List Cf) : Prop where
  bu : ∃ dx v, H b = some (.ins (C_Builder K) dx (fs_Builder (.bl st.val.isSome) v (.ref fl))) ∧ ValAt H v st.val
  li : H fl = some (.lst (cs.reverse.map fun c => V.ref c.a))
  fs : cs.map (·.f) = st.fs
  at_ : ∀ c ∈ cs, FmAt K H c
  nd : (own b fl cs).Nodup
/-- all that is not one's own stays -/
def Ow (o : List Addr) (H H' : Hp) : Prop := ∀ x u, x ∉ o → H x = some u → H' x = some u
theorem Ow.trans {o : List Addr} {H H1 H2 : Hp} (x : Ow o H H1) (y : Ow o H1 H2) : Ow o H H2 := fun a u n h => y a u n (x a u n h)
theorem Ow.of {o : List Addr} {H H' : Hp} (s : Same H H') : Ow o H H' := fun a u _ h => s a u h
theorem BAt.same {K : Frg} {H H' : Hp} {b fl : Addr} {st : Bs} {cs : List Cf} (s : Same H H') (h : BAt K H b fl st cs) : BAt K H' b fl st cs := by
  obtain ⟨⟨dx, v, h1, h2⟩, h3, h4, h5, h6⟩ := h
  exact ⟨⟨dx, v, s _ _ h1, h2.tk (Same.tk s)⟩, s _ _ h3, h4, fun c hc => (h5 c hc).keep (fun u => s _ _) (fun u => s _ _) (Same.tk s), h6⟩
/-- another's work leaves it alone -/
theorem BAt.away {K : Frg} {H H' : Hp} {b fl : Addr} {st : Bs} {cs : List Cf} {o : List Addr} (h : BAt K H b fl st cs) (w : Ow o H H') (tk : Tk H H') (n : ∀ x ∈ own b fl cs, x ∉ o) : BAt K H' b fl st cs := by
  obtain ⟨⟨dx, v, h1, h2⟩, h3, h4, h5, h6⟩ := h
  have nc : ∀ c ∈ cs, c.a ∉ o ∧ c.l ∉ o := fun c hc => ⟨n _ (List.mem_cons_of_mem _ (List.mem_cons_of_mem _ (ownC_mem hc).1)), n _ (List.mem_cons_of_mem _ (List.mem_cons_of_mem _ (ownC_mem hc).2))⟩
  exact ⟨⟨dx, v, w _ _ (n _ (List.mem_cons_self ..)) h1, h2.tk tk⟩, w _ _ (n _ (List.mem_cons_of_mem _ (List.mem_cons_self ..))) h3, h4, fun c hc => (h5 c hc).keep (fun u => w _ _ (nc c hc).1) (fun u => w _ _ (nc c hc).2) tk, h6⟩



def sp_Builder___init__ (K : Frg) : Sp := sp1 fun p H Q _ => ∃ b dx, p = .ref b ∧ H b = some (.ins (C_Builder K) dx []) ∧ ∀ fl H', H fl = none → fl ≠ b → BAt K H' b fl ⟨[], none⟩ [] → (∀ x u, x ≠ b → H x = some u → H' x = some u) → Q .non H'
def sp_Builder__put (K : Frg) : Sp := sp2 fun p o H Q _ => ∃ b fl st cs t, p = .ref b ∧ BAt K H b fl st cs ∧ Tp H o t.dat ∧ st.ready ∧ st.val = none ∧ ∀ cs' H', BAt K H' b fl (st.putv t) cs' → own b fl cs' = own b fl cs → Ow (own b fl cs) H H' → Tk H H' → Q .non H'
def sp_Builder_take (K : Frg) : Sp := sp2 fun p o H Q _ => ∃ b fl st cs ev, p = .ref b ∧ BAt K H b fl st cs ∧ Tp H o (Ev.dat ev) ∧ st.valid ev ∧ st.val = none ∧ ∀ cs' H', BAt K H' b fl (st.step ev) cs' → (∀ x ∈ own b fl cs', x ∈ own b fl cs ∨ H x = none) → Ow (own b fl cs) H H' → Tk H H' → Q .non H'

theorem d_frame {K : Frg} {H : Hp} {R : Addr → Hp → Prop} {E : XK} {kind : Str} (h : ∀ a l H', H a = none → H l = none → l ≠ a → FrAt K H' a l kind .non [] → Same H H' → R a H') : ∀ x dx, H x = none → H dx = none → dx ≠ x → sp_Frame___init__ K (.ref x :: ([.str kind] ++ [])) (upd (upd H dx (.own x)) x (.ins (C_Frame K) dx [])) (fun v H2 => v = .non ∧ R x H2) E := by
  intro a dx ha hd hne
  refine ⟨_, _, rfl, a, dx, kind, rfl, rfl, upd_same, fun l H' hl hla hU g => ⟨rfl, ?_⟩⟩
  have hl0 : H l = none := by
    rw [upd_ne hla] at hl
    by_cases e : l = dx
    · rw [e] at hl ⊢
      exact hd
    · rw [upd_ne e] at hl
      exact hl
  refine h a l H' ha hl0 hla hU fun b u z => ?_
  have h1 : b ≠ a := fun e => by
    rw [e, ha] at z
    cases z
  have h2 : b ≠ dx := fun e => by
    rw [e, hd] at z
    cases z
  exact g b u h1 (by rw [upd_ne h1, upd_ne h2]; exact z)
theorem rev_map_cons (c : Cf) (cr : List Cf) : ((c :: cr).reverse.map fun c => V.ref c.a) = (cr.reverse.map fun c => V.ref c.a) ++ [V.ref c.a] := by
  rw [List.reverse_cons, List.map_append]
  rfl
theorem cs_cons {cs : List Cf} {f : Pf} {r : List Pf} (h : cs.map (·.f) = f :: r) : ∃ c cr, cs = c :: cr ∧ c.f = f ∧ cr.map (·.f) = r := by
  cases cs with
  | nil => cases h
  | cons c cr =>
    injection h with h1 h2
    exact ⟨c, cr, rfl, h1, h2⟩
theorem kind_map (m : Bool) : kindOf_ m = "map" ↔ m = true := by
  cases m with
  | true => exact ⟨fun _ => rfl, fun _ => rfl⟩
  | false => exact ⟨fun h => absurd h (by decide +kernel), fun h => by cases h⟩
theorem sub_own {b fl : Addr} {c : Cf} {cr : List Cf} : ∀ x ∈ own b fl cr, x ∈ own b fl (c :: cr) := fun x hx => by
  unfold own at hx ⊢
  rcases List.mem_cons.mp hx with e | hx
  · exact List.mem_cons.mpr (.inl e)
  · rcases List.mem_cons.mp hx with e | hx
    · exact List.mem_cons_of_mem _ (List.mem_cons.mpr (.inl e))
    · refine List.mem_cons_of_mem _ (List.mem_cons_of_mem _ ?_)
      show x ∈ [c.a, c.l] ++ ownC cr
      exact List.mem_append_right _ hx
section
variable {P : Program} {w : World} {K : PySem.W.Frag} {mg : Str → Option Value} {base : Heap} {f : Addr} {fd : FuncData}
theorem ok_Builder___init__ (F : FunD K "__init__" "Builder.__init__" (defArgs s_Builder___init__) (defBody s_Builder___init__) (defScope s_Builder___init__) [] [] (meAd "Builder" "__init__" K) fd) (nb : Nm K mg) : Mak P w K mg base 1 "Builder" (C_Builder K) (sp_Builder___init__ K) [] := by
  refine makD F nb.mk_Builder nb.g_Builder sc_Builder___init__ (fun _ _ _ _ _ _ us hl => match us, hl with | [_], _ => rfl) len1 (fun cdv A outer s H vs Q E hr h => ⟨_, (pss_cons (ps_fld (pv 0) pe_bl rfl)
    (pss_cons (ps_fld (pv 0) pe_non rfl)
    (pss_one (ps_fld (pv 0) (pe_lst pa_nil) rfl)))), ?_⟩)
  obtain ⟨_, rfl, b, dx, rfl, hA, h⟩ := h
  walk_at "rd"
  refine r_fsetK hA nb.cl_Builder nb.na_Builder_is_done (by decide) (in_Builder_is_done) fun H1 hA1 f1 => ?_
  walk_at "rd"
  refine r_fsetK hA1 nb.cl_Builder nb.na_Builder_value (by simp) (in_Builder_value) fun H2 hA2 f2 => ?_
  walk_at "rd"
  refine ⟨Nat.zero_le _, fun l hl => ?_⟩
  have hne : l ≠ b := fun z => by rw [z, hA2] at hl; cases hl
  have hl0 : H l = none := by
    rw [f2 l hne, f1 l hne] at hl
    exact hl
  have hA3 : upd H2 l (.lst []) b = some _ := (upd_ne (Ne.symm hne)).trans hA2
  have hL3 : upd H2 l (.lst []) l = some (.lst []) := upd_same
  have f3 : ∀ x u, x ≠ b → H x = some u → upd H2 l (.lst []) x = some u := fun x u h1 h2 => same_upd hl _ x u (by rw [f2 x h1, f1 x h1]; exact h2)
  generalize upd H2 l (.lst []) = H3 at hA3 hL3 f3 ⊢
  walk_at "rd"
  refine r_fsetK hA3 nb.cl_Builder nb.na_Builder__frames (by simp) (in_Builder__frames) fun H4 hA4 f4 => ?_
  refine h l H4 hl0 hne ⟨⟨dx, .non, hA4, rfl⟩, by rw [f4 l hne]; exact hL3, rfl, fun c hc => absurd hc (by simp), ?_⟩ fun x u h1 h2 => by rw [f4 x h1]; exact f3 x u h1 h2
  show [b, l].Nodup
  rw [List.nodup_cons]
  exact ⟨by simpa using Ne.symm hne, by simp⟩
theorem ok_Builder__put (F : FunD K "_put" "Builder._put" (defArgs s_Builder__put) (defBody s_Builder__put) (defScope s_Builder__put) [] [] (meAd "Builder" "_put" K) fd) (nb : Nm K mg) (m_Frame_put : Met P w K mg base 1 (C_Frame K) "put" (sp_Frame_put K) []) : Met P w K mg base 2 (C_Builder K) "_put" (sp_Builder__put K) [] := by
  refine metD F nb.cl_Builder nb.me_Builder__put sc_Builder__put (fun _ _ _ _ _ _ us hl => match us, hl with | [_, _], _ => rfl) len2 (fun cdv A outer s H vs Q E hr h => ⟨_, (pss_one (ps_if (pt_truth (pe_fld (pv 0) rfl) (by intro _; rfl))
    (pss_cons (ps_set (i := 2) sc_Builder__put.nd rfl (Or.inl rfl) (pe_ix ix_list (pe_fld (pv 0) rfl) (pe_un un_neg pe_int) (fun _ _ => rfl)))
    (pss_one (ps_expr (pe_mt m_Frame_put hr (by decide) (pv 2) (pa_cons (pv 1) pa_nil)))))
    (pss_cons (ps_fld (pv 0) (pv 1) rfl)
    (pss_one (ps_fld (pv 0) pe_bl rfl))))), ?_⟩)
  obtain ⟨_, v, rfl, b, fl, st, cs, t, rfl, B, tp, rdy, hval, h⟩ := h
  obtain ⟨⟨dx, bv, hb, hbv⟩, hli, hfs, hat, hnd⟩ := id B
  have hfb : fl ≠ b := fun e => by
    have := hnd
    unfold own at this
    rw [List.nodup_cons] at this
    exact this.1 (by rw [e]; exact List.mem_cons_self ..)
  walk_at "rd"
  refine r_fget hb nb.cl_Builder nb.na_Builder__frames lk_Builder__frames ?_
  cases hst : st.fs with
  | nil =>
    rw [hst] at hfs
    obtain rfl : cs = [] := List.map_eq_nil_iff.mp hfs
    refine ⟨false, .inl ⟨_, SqL.of hli, rfl⟩, ?_⟩
    walk_at "rd"
    refine r_fsetK hb nb.cl_Builder nb.na_Builder_value (few_Builder) pt_Builder_value fun H1 hA1 f1 => ?_
    walk_at "rd"
    refine r_fsetK hA1 nb.cl_Builder nb.na_Builder_is_done (few_Builder) pt_Builder_is_done fun H2 hA2 f2 => ?_
    have tk : Tk H H2 := fun x ys hx => by
      have n : x ≠ b := fun e => by rw [e, hb] at hx; cases hx
      rw [f2 x n, f1 x n]
      exact hx
    have e : st.putv t = ⟨[], some t⟩ := by
      unfold Bs.putv
      rw [hst]
    rw [e] at h
    refine h [] H2 ⟨⟨dx, v, hA2, Tp.tk tk _ _ tp⟩, by rw [f2 fl hfb, f1 fl hfb]; exact hli, rfl, fun c hc => absurd hc (by simp), hnd⟩ rfl (fun x u n hx => ?_) tk
    have n : x ≠ b := fun e => n (by rw [e]; exact List.mem_cons_self ..)
    rw [f2 x n, f1 x n]
    exact hx
  | cons pf r =>
    rw [hst] at hfs
    obtain ⟨c, cr, rfl, rfl, rfl⟩ := cs_cons hfs
    rw [rev_map_cons] at hli
    refine ⟨true, .inl ⟨_, SqL.of hli, by simp⟩, ?_⟩
    walk_at "rd"
    refine r_fget hb nb.cl_Builder nb.na_Builder__frames lk_Builder__frames ?_
    walk_at "rd"
    refine r_ixL (SqL.of hli) (atI_last _ _) ?_
    walk_at "rd"
    obtain ⟨key, vs, hF, hk, hmp, hls⟩ := hat c (List.mem_cons_self ..)
    obtain ⟨dxc, hca, hcl⟩ := id hF
    obtain ⟨rk, rl⟩ := rdy c.f _ hst
    have hvl : vs.length ≤ 9000000 := by
      cases hm : c.f.m with
      | true =>
        obtain ⟨es, e1, e2, e3⟩ := hmp hm
        rw [e1, List.length_map]
        rw [e3, List.length_map] at rl
        exact rl
      | false =>
        have q := tpAll_len (hls hm)
        rw [datL_map, List.length_map, List.length_map] at q
        rw [q]
        exact rl
    -- apart from the top's own list
    have ndc : c.l ∉ b :: fl :: ownC cr ∧ c.l ≠ c.a := by
      have q : (b :: fl :: c.a :: c.l :: ownC cr).Nodup := hnd
      simp only [List.nodup_cons, List.mem_cons, not_or] at q ⊢
      obtain ⟨⟨q1, q2, q3, q4⟩, ⟨q5, q6, q7⟩, ⟨q8, q9⟩, q10, q11⟩ := q
      exact ⟨⟨Ne.symm q3, Ne.symm q6, q10⟩, Ne.symm q8⟩
    obtain ⟨ndl, ndla⟩ := ndc
    simp only [List.mem_cons, not_or] at ndl
    obtain ⟨nlb, nlf, nlr⟩ := ndl
    have e : st.putv t = ⟨⟨c.f.m, c.f.k, c.f.ins ++ [(if c.f.m then c.f.k.getD [] else [], t)]⟩ :: cr.map (·.f), st.val⟩ := by
      unfold Bs.putv
      rw [hst]
    rw [e] at h
    have fin : ∀ (H' : Hp) (vs' : List V), FrAt K H' c.a c.l (kindOf_ c.f.m) key vs' → Bt c.l H H' → (c.f.m = true → ∃ es : List (Ent × Vl), vs' = es.map (fun e => V.ref e.1.t) ∧ (∀ e ∈ es, EdAt H' e) ∧ c.f.ins ++ [(if c.f.m then c.f.k.getD [] else [], t)] = es.map pr) → (c.f.m = false → TpAll H' vs' (datL ((c.f.ins ++ [(if c.f.m then c.f.k.getD [] else [], t)]).map (·.2)))) → Q .non H' := fun H' vs' g1 g2 g3 g4 => by
      have tk : Tk H H' := Bt.tk hcl g2
      refine h (⟨c.a, c.l, ⟨c.f.m, c.f.k, c.f.ins ++ [(if c.f.m then c.f.k.getD [] else [], t)]⟩⟩ :: cr) H' ⟨⟨dx, bv, g2 _ _ (Ne.symm nlb) hb, hbv.tk tk⟩, ?_, rfl, fun x hx => ?_, hnd⟩ rfl (fun x u n hx => g2 x u (fun z => n ?_) hx) tk
      · rw [rev_map_cons]
        exact g2 _ _ (Ne.symm nlf) hli
      · rcases List.mem_cons.mp hx with q | q
        · subst q
          refine ⟨key, vs', g1, fun k ek => ?_, g3, g4⟩
          obtain ⟨q, e1, e2⟩ := hk k ek
          exact ⟨q, e1, tk _ _ e2⟩
        · obtain ⟨m1, m2⟩ := ownC_mem q
          exact (hat x (List.mem_cons_of_mem _ q)).keep (fun u => g2 _ u fun z => nlr (z ▸ m1)) (fun u => g2 _ u fun z => nlr (z ▸ m2)) tk
      · rw [z]
        show c.l ∈ own b fl (c :: cr)
        exact List.mem_cons_of_mem _ (List.mem_cons_of_mem _ (ownC_mem (List.mem_cons_self ..)).2)
    refine r_mget hca no_Frame_put ?_
    walk_at "rd"
    refine ⟨_, _, rfl, c.a, c.l, kindOf_ c.f.m, key, vs, rfl, hF, by omega, fun hkm T H' nT gT g1 g2 => ?_, fun hkm H' g1 g2 => ?_⟩
    · have hm := (kind_map c.f.m).mp hkm
      obtain ⟨es, e1, e2, e3⟩ := hmp hm
      obtain ⟨kk, ek⟩ := rk hm
      obtain ⟨q, rfl, hq⟩ := hk kk ek
      obtain ⟨u, rfl⟩ := vl_ref tp
      have tk : Tk H H' := Bt.tk hcl g2
      refine fin H' _ g1 g2 (fun _ => ⟨es ++ [(⟨T, q, u, kk⟩, t)], ?_, fun x hx => ?_, ?_⟩) (fun z => absurd (hm.symm.trans z) (by decide))
      · rw [e1, List.map_append]
        rfl
      · rcases List.mem_append.mp hx with p | p
        · exact (e2 x p).tk tk
        · have e5 : x = (⟨T, q, u, kk⟩, t) := by simpa using p
          subst e5
          exact ⟨⟨gT, tk _ _ hq⟩, Tp.tk tk _ _ tp⟩
      · rw [e3, List.map_append, hm, ek]
        rfl
    · have hm : c.f.m = false := by
        cases hm : c.f.m with
        | true => exact absurd ((kind_map c.f.m).mpr hm) hkm
        | false => rfl
      have tk : Tk H H' := Bt.tk hcl g2
      refine fin H' _ g1 g2 (fun z => absurd (hm.symm.trans z) (by decide)) fun _ => ?_
      rw [List.map_append, datL_app]
      exact tpAll_app (TpAll.tk tk _ _ (hls hm)) (.cons (Tp.tk tk _ _ tp) .nil)
end

theorem mem_own {b fl : Addr} {cs : List Cf} {x : Addr} : x ∈ own b fl cs ↔ x = b ∨ x = fl ∨ x ∈ ownC cs := by
  unfold own
  rw [List.mem_cons, List.mem_cons]
theorem mem_ownC {c : Cf} {cr : List Cf} {x : Addr} : x ∈ ownC (c :: cr) ↔ x = c.a ∨ x = c.l ∨ x ∈ ownC cr := by
  show x ∈ c.a :: c.l :: ownC cr ↔ _
  rw [List.mem_cons, List.mem_cons]
theorem tp_ev1 {H : Hp} {v : V} {k : Str} {d : PyData} (h : Tp H v (.tuple [.str k, d])) : ∃ T u, v = .ref T ∧ H T = some (.tup [.str k, u]) ∧ Tp H u d := by
  obtain ⟨T, vs, rfl, h1, h2⟩ := tp_tup h
  cases h2 with
  | cons x1 x2 =>
    cases x1
    cases x2 with
    | cons y1 y2 =>
      cases y2
      exact ⟨T, _, rfl, h1, y1⟩
theorem FmAt.live {K : Frg} {H : Hp} {c : Cf} (h : FmAt K H c) : (∃ u, H c.a = some u) ∧ ∃ u, H c.l = some u := by
  obtain ⟨key, vs, ⟨dx, h1, h2⟩, _⟩ := h
  exact ⟨⟨_, h1⟩, _, h2⟩
theorem BAt.live {K : Frg} {H : Hp} {b fl : Addr} {st : Bs} {cs : List Cf} (B : BAt K H b fl st cs) : ∀ x ∈ own b fl cs, ∃ u, H x = some u := by
  intro x hx
  obtain ⟨⟨dx, v, h1, h2⟩, h3, h4, h5, h6⟩ := B
  rcases mem_own.mp hx with e | e | e
  · rw [e]
    exact ⟨_, h1⟩
  · rw [e]
    exact ⟨_, h3⟩
  · obtain ⟨c, hc, q⟩ := List.mem_flatMap.mp e
    obtain ⟨l1, l2⟩ := (h5 c hc).live
    rcases List.mem_cons.mp q with q | q
    · rw [q]
      exact l1
    · have q : x = c.l := by simpa using q
      rw [q]
      exact l2
section
variable {P : Program} {w : World} {K : PySem.W.Frag} {mg : Str → Option Value} {base : Heap} {f : Addr} {fd : FuncData}
theorem ok_Builder_take (F : FunD K "take" "Builder.take" (defArgs s_Builder_take) (defBody s_Builder_take) (defScope s_Builder_take) [] [] (meAd "Builder" "take" K) fd) (nb : Nm K mg) (k_Frame : Mak P w K mg base 1 "Frame" (C_Frame K) (sp_Frame___init__ K) []) (m_Frame_built : Met P w K mg base 2 (C_Frame K) "built" (sp_Frame_built K) []) (m_Builder__put : Met P w K mg base 2 (C_Builder K) "_put" (sp_Builder__put K) []) : Met P w K mg base 3 (C_Builder K) "take" (sp_Builder_take K) [] := by
  refine metD F nb.cl_Builder nb.me_Builder_take sc_Builder_take (fun _ _ _ _ _ _ us hl => match us, hl with | [_, _], _ => rfl) len2 (fun cdv A outer s H vs Q E hr h => ⟨_, (pss_one (ps_if (pt_cmpR op_eq (pe_ix ix_tup (pv 1) pe_int (fun _ _ => rfl)) pe_str (nomark _))
    (pss_one (ps_expr (pe_bm PySem.F.plainAttrs_list PySem.F.slot_list_append PySem.F.type_list_append mt_append (pe_fld (pv 0) rfl) (pa_cons (pe_mk k_Frame hr (by decide) rfl (pa_cons (pe_ix ix_tup (pv 1) pe_int (fun _ _ => rfl)) pa_nil)) pa_nil))))
    (pss_one (ps_if (pt_cmpR op_eq (pe_ix ix_tup (pv 1) pe_int (fun _ _ => rfl)) pe_str (nomark _))
    (pss_cons (ps_set (i := 2) sc_Builder_take.nd rfl (Or.inl rfl) (pe_ix ix_list (pe_fld (pv 0) rfl) (pe_un un_neg pe_int) (fun _ _ => rfl)))
    (pss_one (ps_fld (pv 2) (pe_ix ix_tup (pv 1) pe_int (fun _ _ => rfl)) rfl)))
    (pss_one (ps_if (pt_cmpR op_eq (pe_ix ix_tup (pv 1) pe_int (fun _ _ => rfl)) pe_str (nomark _))
    (pss_one (ps_expr (pe_mt m_Builder__put hr (by decide) (pv 0) (pa_cons (pe_ix ix_tup (pv 1) pe_int (fun _ _ => rfl)) pa_nil))))
    (pss_cons (ps_set (i := 2) sc_Builder_take.nd rfl (Or.inl rfl) (pe_bm0 PySem.F.plainAttrs_list PySem.F.slot_list_pop PySem.F.type_list_pop mt_pop (pe_fld (pv 0) rfl)))
    (pss_one (ps_expr (pe_mt m_Builder__put hr (by decide) (pv 0) (pa_cons (pe_mt0 m_Frame_built hr (by decide) (pv 2)) pa_nil))))))))))), ?_⟩)
  obtain ⟨_, v, rfl, b, fl, st, cs, ev, rfl, B, tp, val, hval, h⟩ := h
  obtain ⟨⟨dx, bv, hb, hbv⟩, hli, hfs, hat, hnd⟩ := id B
  have bfl : b ≠ fl := fun e => by
    have q : (b :: fl :: ownC cs).Nodup := hnd
    rw [List.nodup_cons] at q
    exact q.1 (by rw [e]; exact List.mem_cons_self ..)
  have flo : fl ∉ ownC cs := by
    have q : (b :: fl :: ownC cs).Nodup := hnd
    rw [List.nodup_cons, List.nodup_cons] at q
    exact q.2.1
  have bo : b ∉ ownC cs := by
    have q : (b :: fl :: ownC cs).Nodup := hnd
    rw [List.nodup_cons] at q
    exact fun z => q.1 (List.mem_cons_of_mem _ z)
  cases ev with
  | op m =>
    obtain ⟨T, u, rfl, hT, hu⟩ := tp_ev1 (show Tp H v (.tuple [.str "open", .str (kindOf_ m)]) from tp)
    obtain rfl : u = .str (kindOf_ m) := by
      cases hu
      rfl
    have val : st.fs.length ≤ 900 := val
    walk_at "rd"
    refine r_ixT (SqT.of hT) at0 ?_
    walk_at "rd"
    refine r_itep rfl ?_
    walk_at "rd"
    refine r_fget hb nb.cl_Builder nb.na_Builder__frames lk_Builder__frames ?_
    refine ⟨tyL hli, ?_⟩
    walk_at "rd"
    refine r_ixT (SqT.of hT) rfl ?_
    walk_at "rd"
    refine d_frame fun a l H1 na nl la hF s1 => ?_
    have hli1 := s1 _ _ hli
    walk_at "rd"
    have hl0 : (cs.reverse.map fun c => V.ref c.a).length ≤ 900 := by
      rw [List.length_map, List.length_reverse]
      have q := congrArg List.length hfs
      rw [List.length_map] at q
      omega
    refine r_appK hli1 (small1000 (by omega)) fun H2 hL2 f2 => ?_
    have naf : a ≠ fl := fun e => by rw [e, hli] at na; cases na
    have nlf : l ≠ fl := fun e => by rw [e, hli] at nl; cases nl
    have tk : Tk H H2 := fun x ys hx => by
      have n : x ≠ fl := fun e => by rw [e, hli] at hx; cases hx
      rw [f2 x n]
      exact s1 _ _ hx
    obtain ⟨dxf, hFa, hFl⟩ := hF
    have lv := B.live
    have nao : a ∉ own b fl cs := fun z => by
      obtain ⟨u, q⟩ := lv a z
      rw [na] at q
      cases q
    have nlo : l ∉ own b fl cs := fun z => by
      obtain ⟨u, q⟩ := lv l z
      rw [nl] at q
      cases q
    refine h (⟨a, l, ⟨m, none, []⟩⟩ :: cs) H2 ⟨⟨dx, bv, by rw [f2 b bfl]; exact s1 _ _ hb, hbv.tk tk⟩, ?_, ?_, fun c hc => ?_, ?_⟩ (fun x hx => ?_) (fun x u n hx => ?_) tk
    · rw [hL2, rev_map_cons]
    · rw [List.map_cons, hfs]
      rfl
    · rcases List.mem_cons.mp hc with q | q
      · subst q
        refine ⟨.non, [], ⟨dxf, by rw [f2 a naf]; exact hFa, by rw [f2 l nlf]; exact hFl⟩, fun k e => (by cases e), fun _ => ⟨[], rfl, fun _ h => absurd h (by simp), rfl⟩, fun _ => .nil⟩
      · obtain ⟨m1, m2⟩ := ownC_mem q
        exact (hat c q).keep (fun u z => by rw [f2 _ (fun e => flo (e ▸ m1))]; exact s1 _ _ z) (fun u z => by rw [f2 _ (fun e => flo (e ▸ m2))]; exact s1 _ _ z) tk
    · show (b :: fl :: a :: l :: ownC cs).Nodup
      have q : (b :: fl :: ownC cs).Nodup := hnd
      simp only [own, List.mem_cons, not_or] at nao nlo
      simp only [List.nodup_cons, List.mem_cons, not_or] at q ⊢
      exact ⟨⟨bfl, Ne.symm nao.1, Ne.symm nlo.1, bo⟩, ⟨Ne.symm nao.2.1, Ne.symm nlo.2.1, flo⟩, ⟨Ne.symm la, nao.2.2⟩, nlo.2.2, q.2.2⟩
    · rcases mem_own.mp hx with q | q | q
      · exact .inl (mem_own.mpr (.inl q))
      · exact .inl (mem_own.mpr (.inr (.inl q)))
      · rcases mem_ownC.mp q with q | q | q
        · exact .inr (by rw [q]; exact na)
        · exact .inr (by rw [q]; exact nl)
        · exact .inl (mem_own.mpr (.inr (.inr q)))
    · have n1 : x ≠ fl := fun e => n (mem_own.mpr (.inr (.inl e)))
      rw [f2 x n1]
      exact s1 _ _ hx
  | ky k =>
    obtain ⟨T, u, rfl, hT, hu⟩ := tp_ev1 (show Tp H v (.tuple [.str "key", kd k]) from tp)
    obtain ⟨q, rfl, hq⟩ := tp_kdB hu
    obtain ⟨pf, r, hst⟩ := val
    rw [hst] at hfs
    obtain ⟨c, cr, rfl, rfl, rfl⟩ := cs_cons hfs
    rw [rev_map_cons] at hli
    walk_at "rd"
    refine r_ixT (SqT.of hT) at0 ?_
    walk_at "rd"
    refine r_iteN (by decide +kernel) ?_
    walk_at "rd"
    refine r_ixT (SqT.of hT) at0 ?_
    walk_at "rd"
    refine r_itep rfl ?_
    walk_at "rd"
    refine r_fget hb nb.cl_Builder nb.na_Builder__frames lk_Builder__frames ?_
    walk_at "rd"
    refine r_ixL (SqL.of hli) (atI_last _ _) ?_
    walk_at "rd"
    refine r_ixT (SqT.of hT) rfl ?_
    walk_at "rd"
    obtain ⟨key, vs, ⟨dxc, hca, hcl⟩, hk, hmp, hls⟩ := hat c (List.mem_cons_self ..)
    refine r_fsetK hca nb.cl_Frame nb.na_Frame_key (few_Frame) pt_Frame_key fun H1 hA1 f1 => ?_
    have tk : Tk H H1 := fun x ys hx => by
      have n : x ≠ c.a := fun e => by rw [e, hca] at hx; cases hx
      rw [f1 x n]
      exact hx
    have nd2 : c.a ≠ b ∧ c.a ≠ fl ∧ c.a ≠ c.l ∧ c.a ∉ ownC cr := by
      have q : (b :: fl :: c.a :: c.l :: ownC cr).Nodup := hnd
      simp only [List.nodup_cons, List.mem_cons, not_or] at q
      obtain ⟨⟨q1, q2, q3, q4⟩, ⟨q5, q6, q7⟩, ⟨q8, q9⟩, q10, q11⟩ := q
      exact ⟨Ne.symm q2, Ne.symm q5, q8, q9⟩
    obtain ⟨nab, naf, nal, nar⟩ := nd2
    have e : st.step (.ky k) = ⟨⟨c.f.m, some k, c.f.ins⟩ :: cr.map (·.f), st.val⟩ := by
      show (match st.fs with | [] => st | f :: r => ⟨⟨f.m, some k, f.ins⟩ :: r, st.val⟩) = _
      rw [hst]
    rw [e] at h
    refine h (⟨c.a, c.l, ⟨c.f.m, some k, c.f.ins⟩⟩ :: cr) H1 ⟨⟨dx, bv, by rw [f1 b (Ne.symm nab)]; exact hb, hbv.tk tk⟩, ?_, rfl, fun x hx => ?_, hnd⟩ (fun x hx => .inl hx) (fun x u n hx => ?_) tk
    · rw [rev_map_cons, f1 fl (Ne.symm naf)]
      exact hli
    · rcases List.mem_cons.mp hx with p | p
      · subst p
        refine ⟨.ref q, vs, ⟨dxc, hA1, by rw [f1 c.l (Ne.symm nal)]; exact hcl⟩, fun k' e => ?_, fun e => ?_, fun e => TpAll.tk tk _ _ (hls e)⟩
        · have e : some k = some k' := e
          cases e
          exact ⟨q, rfl, tk _ _ hq⟩
        · obtain ⟨es, e1, e2, e3⟩ := hmp e
          exact ⟨es, e1, fun y hy => (e2 y hy).tk tk, e3⟩
      · obtain ⟨m1, m2⟩ := ownC_mem p
        exact (hat x (List.mem_cons_of_mem _ p)).keep (fun u z => by rw [f1 _ (fun e => nar (e ▸ m1))]; exact z) (fun u z => by rw [f1 _ (fun e => nar (e ▸ m2))]; exact z) tk
    · have n1 : x ≠ c.a := fun e => n (mem_own.mpr (.inr (.inr (mem_ownC.mpr (.inl e)))))
      rw [f1 x n1]
      exact hx
  | lf k r =>
    obtain ⟨T, u, rfl, hT, hu⟩ := tp_ev1 (show Tp H v (.tuple [.str "leaf", .tuple (.str k :: r)]) from tp)
    walk_at "rd"
    refine r_ixT (SqT.of hT) at0 ?_
    walk_at "rd"
    refine r_iteN (by decide +kernel) ?_
    walk_at "rd"
    refine r_ixT (SqT.of hT) at0 ?_
    walk_at "rd"
    refine r_iteN (by decide +kernel) ?_
    walk_at "rd"
    refine r_ixT (SqT.of hT) at0 ?_
    walk_at "rd"
    refine r_itep rfl ?_
    walk_at "rd"
    refine r_mget hb no_Builder__put ?_
    walk_at "rd"
    refine r_ixT (SqT.of hT) rfl ?_
    refine ⟨_, _, rfl, b, fl, st, cs, .lf k r, rfl, B, hu, val, hval, fun cs' H' B' eo w tk => ?_⟩
    exact h cs' H' B' (fun x hx => .inl (by rw [← eo]; exact hx)) w tk
  | cl =>
    obtain ⟨T, ws, rfl, hT, hw⟩ := tp_tup (show Tp H v (.tuple [.str "close"]) from tp)
    have hT : H T = some (.tup [.str "close"]) := by
      cases hw with
      | cons x1 x2 =>
        cases x1
        cases x2
        exact hT
    obtain ⟨pf, r, hst, hnk, hil, rdy⟩ := val
    rw [hst] at hfs
    obtain ⟨c, cr, rfl, rfl, rfl⟩ := cs_cons hfs
    rw [rev_map_cons] at hli
    walk_at "rd"
    refine r_ixT (SqT.of hT) at0 ?_
    walk_at "rd"
    refine r_iteN (by decide +kernel) ?_
    walk_at "rd"
    refine r_ixT (SqT.of hT) at0 ?_
    walk_at "rd"
    refine r_iteN (by decide +kernel) ?_
    walk_at "rd"
    refine r_ixT (SqT.of hT) at0 ?_
    walk_at "rd"
    refine r_iteN (by decide +kernel) ?_
    walk_at "rd"
    refine r_fget hb nb.cl_Builder nb.na_Builder__frames lk_Builder__frames ?_
    refine ⟨tyL hli, ?_⟩
    refine ⟨fl, _, .ref c.a, rfl, rfl, hli, by simp, ?_⟩
    rw [List.dropLast_concat]
    have tk1 : Tk H (upd H fl (.lst (cr.reverse.map fun c => V.ref c.a))) := tk_put hli
    have f1 : ∀ x, x ≠ fl → upd H fl (.lst (cr.reverse.map fun c => V.ref c.a)) x = H x := fun x n => upd_ne n
    have hl1 : upd H fl (.lst (cr.reverse.map fun c => V.ref c.a)) fl = some (.lst (cr.reverse.map fun c => V.ref c.a)) := upd_same
    generalize upd H fl (.lst (cr.reverse.map fun c => V.ref c.a)) = H1 at tk1 f1 hl1 ⊢
    have flo' : fl ∉ ownC cr ∧ fl ≠ c.a ∧ fl ≠ c.l := by
      refine ⟨fun z => flo (mem_ownC.mpr (.inr (.inr z))), fun z => flo (mem_ownC.mpr (.inl z)), fun z => flo (mem_ownC.mpr (.inr (.inl z)))⟩
    obtain ⟨fl1, fl2, fl3⟩ := flo'
    have B1 : BAt K H1 b fl ⟨cr.map (·.f), st.val⟩ cr := by
      refine ⟨⟨dx, bv, by rw [f1 b bfl]; exact hb, hbv.tk tk1⟩, hl1, rfl, fun x hx => ?_, ?_⟩
      · obtain ⟨m1, m2⟩ := ownC_mem hx
        exact (hat x (List.mem_cons_of_mem _ hx)).keep (fun u z => by rw [f1 _ (fun e => fl1 (e ▸ m1))]; exact z) (fun u z => by rw [f1 _ (fun e => fl1 (e ▸ m2))]; exact z) tk1
      · have q : (b :: fl :: c.a :: c.l :: ownC cr).Nodup := hnd
        show (b :: fl :: ownC cr).Nodup
        simp only [List.nodup_cons, List.mem_cons, not_or] at q ⊢
        obtain ⟨⟨q1, q2, q3, q4⟩, ⟨q5, q6, q7⟩, ⟨q8, q9⟩, q10, q11⟩ := q
        exact ⟨⟨q1, q4⟩, q7, q11⟩
    have hFc := (hat c (List.mem_cons_self ..)).keep (fun u z => by rw [f1 _ (Ne.symm fl2)]; exact z) (fun u z => by rw [f1 _ (Ne.symm fl3)]; exact z) tk1
    obtain ⟨key, vs, hF, hk, hmp, hls⟩ := hFc
    obtain ⟨dxc, hca, hcl⟩ := id hF
    have e : st.step .cl = (Bs.mk (cr.map (·.f)) st.val).putv c.f.built := by
      show (match st.fs with | [] => st | f :: r => (Bs.mk r st.val).putv f.built) = _
      rw [hst]
    rw [e] at h
    walk_at "rd"
    obtain ⟨dx1, bv1, hb1, _⟩ := B1.bu
    refine r_mget hb1 no_Builder__put ?_
    walk_at "rd"
    refine r_mget hca no_Frame_built ?_
    have ow1 : Ow (own b fl (c :: cr)) H H1 := fun x u n hx => by
      rw [f1 x (fun z => n (mem_own.mpr (.inr (.inl z))))]
      exact hx
    refine ⟨_, rfl, c.a, c.l, kindOf_ c.f.m, key, vs, rfl, hF, fun hkm => ?_, fun hkm => ?_⟩
    · have hm := (kind_map c.f.m).mp hkm
      obtain ⟨es, e1, e2, e3⟩ := hmp hm
      have nk := hnk hm
      rw [e3, List.map_map] at nk
      refine ⟨es, e1, e2, nk, by have hil := hil hm; rw [e3, List.length_map] at hil; omega, fun u zs H2 pz sz tu s2 => ?_⟩
      have ez : zs = sortM c.f.ins := by
        rw [e3]
        exact sortM_uniq pz sz
      have eb : c.f.built = .mp zs := by
        unfold Pf.built
        rw [if_pos hm, ez]
      walk_at "rd"
      refine ⟨_, _, rfl, b, fl, _, cr, .mp zs, rfl, B1.same s2, tu, rdy, hval, fun cs' H3 B3 eo w3 tk3 => ?_⟩
      rw [eb] at h
      walk_at "rd"
      refine h cs' H3 B3 (fun x hx => .inl (sub_own x (by rw [← eo]; exact hx))) ?_ ((tk1.trans (Same.tk s2)).trans tk3)
      exact (ow1.trans (Ow.of s2)).trans fun x u n hx => w3 x u (fun z => n (sub_own x z)) hx
    · have hm : c.f.m = false := by
        cases hm : c.f.m with
        | true => exact absurd ((kind_map c.f.m).mpr hm) hkm
        | false => rfl
      refine ⟨c.f.ins.map (·.2), hls hm, fun u H2 tu s2 => ?_⟩
      have eb : c.f.built = .ls (c.f.ins.map (·.2)) := by
        unfold Pf.built
        rw [if_neg (by rw [hm]; decide)]
      walk_at "rd"
      refine ⟨_, _, rfl, b, fl, _, cr, .ls (c.f.ins.map (·.2)), rfl, B1.same s2, tu, rdy, hval, fun cs' H3 B3 eo w3 tk3 => ?_⟩
      rw [eb] at h
      walk_at "rd"
      refine h cs' H3 B3 (fun x hx => .inl (sub_own x (by rw [← eo]; exact hx))) ?_ ((tk1.trans (Same.tk s2)).trans tk3)
      exact (ow1.trans (Ow.of s2)).trans fun x u n hx => w3 x u (fun z => n (sub_own x z)) hx
end

/-! ### a value's events build it -/
def Bs.okRun : Bs → List Ev → Prop
  | _, [] => True
  | st, e :: r => st.valid e ∧ st.val = none ∧ (st.step e).okRun r
def Bs.run (st : Bs) (es : List Ev) : Bs := es.foldl Bs.step st
def lastK (k : Option (List Int)) (es : List (List Int × Vl)) : Option (List Int) := es.foldl (fun _ e => some e.1) k
mutual
theorem evs_run : ∀ (n : Nat) (t : Vl), t.ok n → ∀ (st : Bs) (rest : List Ev), st.fs.length + n ≤ 900 → st.ready → st.val = none → (st.putv t).okRun rest → st.okRun (t.evs ++ rest) ∧ st.run (t.evs ++ rest) = (st.putv t).run rest
  | n, .lf k r, h, st, rest, hd, rdy, hv, hr => ⟨⟨rdy, hv, hr⟩, rfl⟩
  | 0, .ls xs, h, _, _, _, _, _, _ => h.elim
  | n + 1, .ls xs, h, st, rest, hd, rdy, hv, hr => by
    have e : (Vl.ls xs).evs ++ rest = .op false :: (evsL xs ++ (.cl :: rest)) := by
      show (Ev.op false :: (evsL xs ++ [Ev.cl])) ++ rest = _
      rw [List.cons_append, List.append_assoc]
      rfl
    rw [e]
    have hxl : xs.length ≤ 49 := h.1
    have cl2 : (Bs.mk (⟨false, none, [] ++ xs.map fun x => (([] : List Int), x)⟩ :: st.fs) st.val).okRun (.cl :: rest) ∧ (Bs.mk (⟨false, none, [] ++ xs.map fun x => (([] : List Int), x)⟩ :: st.fs) st.val).run (.cl :: rest) = (st.putv (.ls xs)).run rest := by
      have e2 : (Bs.mk (⟨false, none, [] ++ xs.map fun x => (([] : List Int), x)⟩ :: st.fs) st.val).step .cl = st.putv (.ls xs) := by
        show (Bs.mk st.fs st.val).putv (.ls ((([] : List (List Int × Vl)) ++ xs.map fun x => (([] : List Int), x)).map fun y : List Int × Vl => y.2)) = _
        rw [List.nil_append, List.map_map]
        have e3 : xs.map ((fun x : List Int × Vl => x.2) ∘ fun x : Vl => (([] : List Int), x)) = xs := by
          rw [show ((fun x : List Int × Vl => x.2) ∘ fun x : Vl => (([] : List Int), x)) = id from rfl, List.map_id]
        rw [e3]
      refine ⟨⟨⟨_, _, rfl, fun q => (by cases q), ?_, rdy⟩, hv, by rw [e2]; exact hr⟩, ?_⟩
      · exact fun z => by cases z
      · show ((Bs.mk (⟨false, none, [] ++ xs.map fun x => (([] : List Int), x)⟩ :: st.fs) st.val).step .cl).run rest = _
        rw [e2]
    obtain ⟨q1, q2⟩ := evsL_run n xs h.2 ⟨false, none, []⟩ st.fs st.val (.cl :: rest) rfl (by omega) (by show 0 + _ ≤ 900; omega) hv cl2.1
    refine ⟨⟨by show st.fs.length ≤ 900; omega, hv, q1⟩, ?_⟩
    show (Bs.mk (⟨false, none, []⟩ :: st.fs) st.val).run _ = _
    rw [q2, cl2.2]
  | 0, .mp es, h, _, _, _, _, _, _ => h.elim
  | n + 1, .mp es, h, st, rest, hd, rdy, hv, hr => by
    have e : (Vl.mp es).evs ++ rest = .op true :: (evsM es ++ (.cl :: rest)) := by
      show (Ev.op true :: (evsM es ++ [Ev.cl])) ++ rest = _
      rw [List.cons_append, List.append_assoc]
      rfl
    rw [e]
    have hxl : es.length ≤ 49 := h.1
    have cl2 : (Bs.mk (⟨true, lastK none es, [] ++ es⟩ :: st.fs) st.val).okRun (.cl :: rest) ∧ (Bs.mk (⟨true, lastK none es, [] ++ es⟩ :: st.fs) st.val).run (.cl :: rest) = (st.putv (.mp es)).run rest := by
      have e2 : (Bs.mk (⟨true, lastK none es, [] ++ es⟩ :: st.fs) st.val).step .cl = st.putv (.mp es) := by
        show (Bs.mk st.fs st.val).putv (.mp (sortM ([] ++ es))) = _
        rw [List.nil_append, sortM_id h.2.1]
      refine ⟨⟨⟨_, _, rfl, fun _ => strict_nodup h.2.1, ?_, rdy⟩, hv, by rw [e2]; exact hr⟩, ?_⟩
      · intro _
        show ([] ++ es).length ≤ 9000001
        rw [List.nil_append]
        omega
      · show ((Bs.mk (⟨true, lastK none es, [] ++ es⟩ :: st.fs) st.val).step .cl).run rest = _
        rw [e2]
    obtain ⟨q1, q2⟩ := evsM_run n es h.2.2.2 none [] st.fs st.val (.cl :: rest) (by omega) (by show 0 + _ ≤ 900; omega) hv cl2.1
    refine ⟨⟨by show st.fs.length ≤ 900; omega, hv, q1⟩, ?_⟩
    show (Bs.mk (⟨true, none, []⟩ :: st.fs) st.val).run _ = _
    rw [q2, cl2.2]
theorem evsL_run : ∀ (n : Nat) (xs : List Vl), vokL n xs → ∀ (f : Pf) (fs : List Pf) (val : Option Vl) (rest : List Ev), f.m = false → fs.length + 1 + n ≤ 900 → f.ins.length + xs.length ≤ 900 → val = none →
    (Bs.mk (⟨f.m, f.k, f.ins ++ xs.map fun x => (([] : List Int), x)⟩ :: fs) val).okRun rest → (Bs.mk (f :: fs) val).okRun (evsL xs ++ rest) ∧ (Bs.mk (f :: fs) val).run (evsL xs ++ rest) = (Bs.mk (⟨f.m, f.k, f.ins ++ xs.map fun x => (([] : List Int), x)⟩ :: fs) val).run rest
  | n, [], _, f, fs, val, rest, hm, hd, hl, hv, hr => by
    have e : f.ins ++ ([] : List Vl).map (fun x => (([] : List Int), x)) = f.ins := List.append_nil _
    rw [e] at hr ⊢
    exact ⟨hr, rfl⟩
  | n, x :: xs, h, f, fs, val, rest, hm, hd, hl, hv, hr => by
    have hl : f.ins.length + (xs.length + 1) ≤ 900 := hl
    have ep : (Bs.mk (f :: fs) val).putv x = Bs.mk (⟨f.m, f.k, f.ins ++ [(([] : List Int), x)]⟩ :: fs) val := by
      show Bs.mk (⟨f.m, f.k, f.ins ++ [(if f.m then f.k.getD [] else [], x)]⟩ :: fs) val = _
      rw [hm]
      rfl
    have e1 : f.ins ++ (x :: xs).map (fun x => (([] : List Int), x)) = (f.ins ++ [(([] : List Int), x)]) ++ xs.map fun x => (([] : List Int), x) := by
      rw [List.map_cons, List.append_assoc]
      rfl
    rw [e1] at hr ⊢
    obtain ⟨q1, q2⟩ := evsL_run n xs h.2 ⟨f.m, f.k, f.ins ++ [(([] : List Int), x)]⟩ fs val rest hm hd (by show (f.ins ++ [_]).length + _ ≤ 900; rw [List.length_append]; show _ + 1 + _ ≤ 900; omega) hv hr
    have e2 : evsL (x :: xs) ++ rest = x.evs ++ (evsL xs ++ rest) := by
      show (x.evs ++ evsL xs) ++ rest = _
      rw [List.append_assoc]
    rw [e2]
    obtain ⟨p1, p2⟩ := evs_run n x h.1 (Bs.mk (f :: fs) val) (evsL xs ++ rest) hd (fun f' r e => by
      cases e
      exact ⟨fun z => absurd (hm.symm.trans z) (by decide), by omega⟩) hv (by rw [ep]; exact q1)
    refine ⟨p1, ?_⟩
    rw [p2, ep, q2]
theorem evsM_run : ∀ (n : Nat) (es : List (List Int × Vl)), vokM n es → ∀ (k : Option (List Int)) (ins : List (List Int × Vl)) (fs : List Pf) (val : Option Vl) (rest : List Ev), fs.length + 1 + n ≤ 900 → ins.length + es.length ≤ 900 → val = none →
    (Bs.mk (⟨true, lastK k es, ins ++ es⟩ :: fs) val).okRun rest → (Bs.mk (⟨true, k, ins⟩ :: fs) val).okRun (evsM es ++ rest) ∧ (Bs.mk (⟨true, k, ins⟩ :: fs) val).run (evsM es ++ rest) = (Bs.mk (⟨true, lastK k es, ins ++ es⟩ :: fs) val).run rest
  | n, [], _, k, ins, fs, val, rest, hd, hl, hv, hr => by
    rw [List.append_nil] at hr ⊢
    exact ⟨hr, rfl⟩
  | n, (k0, x) :: es, h, k, ins, fs, val, rest, hd, hl, hv, hr => by
    have hl : ins.length + (es.length + 1) ≤ 900 := hl
    have ep : (Bs.mk (⟨true, some k0, ins⟩ :: fs) val).putv x = Bs.mk (⟨true, some k0, ins ++ [(k0, x)]⟩ :: fs) val := rfl
    have e1 : ins ++ (k0, x) :: es = (ins ++ [(k0, x)]) ++ es := by
      rw [List.append_assoc]
      rfl
    have e3 : lastK k ((k0, x) :: es) = lastK (some k0) es := rfl
    rw [e1, e3] at hr ⊢
    obtain ⟨q1, q2⟩ := evsM_run n es h.2 (some k0) (ins ++ [(k0, x)]) fs val rest hd (by rw [List.length_append]; show _ + 1 + _ ≤ 900; omega) hv hr
    have e2 : evsM ((k0, x) :: es) ++ rest = .ky k0 :: (x.evs ++ (evsM es ++ rest)) := by
      show (Ev.ky k0 :: (x.evs ++ evsM es)) ++ rest = _
      rw [List.cons_append, List.append_assoc]
    rw [e2]
    obtain ⟨p1, p2⟩ := evs_run n x h.1 (Bs.mk (⟨true, some k0, ins⟩ :: fs) val) (evsM es ++ rest) hd (fun f' r e => by
      cases e
      exact ⟨fun _ => ⟨k0, rfl⟩, by show ins.length ≤ 9000000; omega⟩) hv (by rw [ep]; exact q1)
    refine ⟨⟨⟨_, _, rfl⟩, hv, p1⟩, ?_⟩
    show (Bs.mk (⟨true, some k0, ins⟩ :: fs) val).run _ = _
    rw [p2, ep, q2]
end
theorem okRun_at : ∀ (es : List Ev) (st : Bs) (i : Nat) (e : Ev), st.okRun es → es[i]? = some e → (st.run (es.take i)).valid e ∧ (st.run (es.take i)).val = none
  | [], _, _, _, _, h => by simp at h
  | x :: es, st, 0, e, h, he => by
    cases (show some x = some e from he)
    exact ⟨h.1, h.2.1⟩
  | x :: es, st, i + 1, e, h, he => okRun_at es (st.step x) i e h.2.2 (by simpa using he)
theorem run_take {es : List Ev} {st : Bs} {i : Nat} {e : Ev} (h : es[i]? = some e) : st.run (es.take (i + 1)) = (st.run (es.take i)).step e := by
  unfold Bs.run
  rw [take_one h, List.foldl_append]
  rfl
theorem run_value {n : Nat} {t : Vl} (h : t.ok n) (hn : n ≤ 900) : (Bs.mk [] none).okRun t.evs ∧ (Bs.mk [] none).run t.evs = ⟨[], some t⟩ := by
  have q := evs_run n t h ⟨[], none⟩ [] (by show 0 + n ≤ 900; omega) (fun f r e => by cases e) rfl trivial
  rw [List.append_nil] at q
  exact q
theorem lay_op (m : Bool) : (Ev.op m).dat.canLay0 = true ∧ (Ev.op m).dat.depth ≤ 4 := by
  cases m <;> exact ⟨by decide +kernel, by decide +kernel⟩
theorem lay_cl : Ev.cl.dat.canLay0 = true ∧ Ev.cl.dat.depth ≤ 4 := ⟨by decide +kernel, by decide +kernel⟩
theorem lay_ky (k : List Int) : (Ev.ky k).dat.canLay0 = true ∧ (Ev.ky k).dat.depth ≤ 4 := by
  refine ⟨?_, ?_⟩
  · show (PyData.canLay0 (.str "key") && (PyData.canLay0 (kd k) && true)) = true
    rw [show PyData.canLay0 (.str "key") = true by decide +kernel, show PyData.canLay0 (kd k) = true from lay_kd k]
    rfl
  · have q := depth_kd1 k
    show max 0 (max (kd k).depth 0) + 1 ≤ 4
    omega
theorem lay_lfE {k : Str} {r : List PyData} (h : Lf k r) : (Ev.lf k r).dat.canLay0 = true ∧ (Ev.lf k r).dat.depth ≤ 4 := by
  obtain ⟨h1, h2, h3⟩ := lay_lf h
  refine ⟨?_, ?_⟩
  · show (PyData.canLay0 (.str "leaf") && ((PyData.canLay0 (.str k) && PyData.canLayAll0 r) && true)) = true
    rw [show PyData.canLay0 (.str "leaf") = true by decide +kernel, h1, h2]
    rfl
  · show max 0 (max (max 0 (PyData.depthAll r) + 1) 0) + 1 ≤ 4
    omega
def EvOk (e : Ev) : Prop := e.dat.canLay0 = true ∧ e.dat.depth ≤ 4
mutual
theorem evs_ok : ∀ (n : Nat) (t : Vl), t.ok n → ∀ e ∈ t.evs, EvOk e
  | n, .lf k r, h, e, he => by
    have e1 : e = .lf k r := by simpa using (show e ∈ [Ev.lf k r] from he)
    rw [e1]
    exact lay_lfE (show Lf k r by cases n <;> exact h)
  | 0, .ls xs, h, _, _ => h.elim
  | n + 1, .ls xs, h, e, he => by
    rcases List.mem_cons.mp (show e ∈ Ev.op false :: (evsL xs ++ [Ev.cl]) from he) with q | q
    · rw [q]
      exact lay_op false
    · rcases List.mem_append.mp q with q | q
      · exact evsL_ok n xs h.2 e q
      · have q : e = .cl := by simpa using q
        rw [q]
        exact lay_cl
  | 0, .mp es, h, _, _ => h.elim
  | n + 1, .mp es, h, e, he => by
    rcases List.mem_cons.mp (show e ∈ Ev.op true :: (evsM es ++ [Ev.cl]) from he) with q | q
    · rw [q]
      exact lay_op true
    · rcases List.mem_append.mp q with q | q
      · exact evsM_ok n es h.2.2.2 e q
      · have q : e = .cl := by simpa using q
        rw [q]
        exact lay_cl
theorem evsL_ok : ∀ (n : Nat) (xs : List Vl), vokL n xs → ∀ e ∈ evsL xs, EvOk e
  | _, [], _, e, he => absurd he (by simp [evsL])
  | n, x :: xs, h, e, he => by
    rcases List.mem_append.mp (show e ∈ x.evs ++ evsL xs from he) with q | q
    · exact evs_ok n x h.1 e q
    · exact evsL_ok n xs h.2 e q
theorem evsM_ok : ∀ (n : Nat) (xs : List (List Int × Vl)), vokM n xs → ∀ e ∈ evsM xs, EvOk e
  | _, [], _, e, he => absurd he (by simp [evsM])
  | n, (k, x) :: xs, h, e, he => by
    rcases List.mem_cons.mp (show e ∈ Ev.ky k :: (x.evs ++ evsM xs) from he) with q | q
    · rw [q]
      exact lay_ky k
    · rcases List.mem_append.mp q with q | q
      · exact evs_ok n x h.1 e q
      · exact evsM_ok n xs h.2 e q
end
theorem evD_lay : ∀ {es : List Ev}, (∀ e ∈ es, EvOk e) → PyData.canLayAll0 (evD es) = true ∧ PyData.depthAll (evD es) ≤ 4
  | [], _ => ⟨rfl, Nat.zero_le _⟩
  | e :: es, h => by
    obtain ⟨h1, h2⟩ := evD_lay (es := es) fun x hx => h x (List.mem_cons_of_mem _ hx)
    obtain ⟨g1, g2⟩ := h e (List.mem_cons_self ..)
    refine ⟨?_, ?_⟩
    · show (e.dat.canLay0 && PyData.canLayAll0 (evD es)) = true
      rw [g1, h1]
      rfl
    · show max e.dat.depth (PyData.depthAll (evD es)) ≤ 4
      omega
theorem d_builder {K : Frg} {H : Hp} {R : Addr → Hp → Prop} {E : XK} (h : ∀ b l H', H b = none → H l = none → BAt K H' b l ⟨[], none⟩ [] → Same H H' → R b H') : ∀ x dx, H x = none → H dx = none → dx ≠ x → sp_Builder___init__ K (.ref x :: ([] ++ [])) (upd (upd H dx (.own x)) x (.ins (C_Builder K) dx [])) (fun v H2 => v = .non ∧ R x H2) E := by
  intro a dx ha hd hne
  refine ⟨_, rfl, a, dx, rfl, upd_same, fun l H' hl hla hU g => ⟨rfl, ?_⟩⟩
  have hl0 : H l = none := by
    rw [upd_ne hla] at hl
    by_cases e : l = dx
    · rw [e] at hl ⊢
      exact hd
    · rw [upd_ne e] at hl
      exact hl
  refine h a l H' ha hl0 hU fun b u z => ?_
  have h1 : b ≠ a := fun e => by
    rw [e, ha] at z
    cases z
  have h2 : b ≠ dx := fun e => by
    rw [e, hd] at z
    cases z
  exact g b u h1 (by rw [upd_ne h1, upd_ne h2]; exact z)

/-! ### the program's UTF-8 -/
def enc1 (c : Int) : List Int :=
  if c < 128 then [c] else if c < 2048 then [192 + c / 64, 128 + c % 64] else if c < 65536 then [224 + c / 4096, 128 + c / 64 % 64, 128 + c % 64]
  else [240 + c / 262144, 128 + c / 4096 % 64, 128 + c / 64 % 64, 128 + c % 64]
def encs (cs : List Int) : List Int := cs.flatMap enc1
structure U8 where
  ps : List Int
  ms : Int
  wo : Int
  le : Int
  mo : Int
def u80 : U8 := ⟨[], 0, 0, 128, 191⟩
def U8At (K : Frg) (H : Hp) (a l : Addr) (s : U8) : Prop := ∃ dx, H a = some (.ins (C_Utf8 K) dx (fs_Utf8 (.ref l) (.int s.ms) (.int s.wo) (.int s.le) (.int s.mo))) ∧ H l = some (.lst (s.ps.map V.int))
def u8go (s : U8) (b : Int) : Bool × U8 :=
  if s.le ≤ b ∧ b ≤ s.mo then (true, ⟨if s.ms - 1 = 0 then s.ps ++ [s.wo * 64 + b - 128] else s.ps, s.ms - 1, s.wo * 64 + b - 128, 128, 191⟩) else (false, s)
structure U8R where
  f : Int
  l : Int
  m : Int
  le : Int
  mo : Int
def rows8 : List U8R := [⟨194, 223, 1, 128, 191⟩, ⟨224, 224, 2, 160, 191⟩, ⟨225, 236, 2, 128, 191⟩, ⟨237, 237, 2, 128, 159⟩, ⟨238, 239, 2, 128, 191⟩, ⟨240, 240, 3, 144, 191⟩, ⟨241, 243, 3, 128, 191⟩, ⟨244, 244, 3, 128, 143⟩]
def U8R.dat (r : U8R) : PyData := .tuple [.int r.f, .int r.l, .int r.m, .int r.le, .int r.mo]
def U8R.is (r : U8R) (b : Int) : Bool := decide (r.f ≤ b ∧ b ≤ r.l)
def mark8 (m : Int) : Int := if m = 1 then 192 else if m = 2 then 224 else 240
def u8start (s : U8) (b : Int) : Bool × U8 :=
  match rows8.find? (·.is b) with
  | some r => (true, ⟨s.ps, r.m, b - mark8 r.m, r.le, r.mo⟩)
  | none => (false, s)
def u8take (s : U8) (b : Int) : Bool × U8 := if s.ms > 0 then u8go s b else if b < 128 then (true, { s with ps := s.ps ++ [b] }) else u8start s b
/-- a list or tuple of numbers at a -/
def RowAt (H : Hp) (a : Addr) (zs : List Int) : Prop := H a = some (.lst (zs.map V.int)) ∨ H a = some (.tup (zs.map V.int))
def Point (c : Int) : Prop := 0 ≤ c ∧ c ≤ 1114111 ∧ (c < 55296 ∨ 57344 ≤ c)
def sp_Utf8___init__ (K : Frg) : Sp := sp1 fun p H Q _ => ∃ a dx, p = .ref a ∧ H a = some (.ins (C_Utf8 K) dx []) ∧ ∀ l H', H l = none → l ≠ a → U8At K H' a l u80 → (∀ b u, b ≠ a → H b = some u → H' b = some u) → Q .non H'
def sp_Utf8_is_open (K : Frg) : Sp := sp1 fun p H Q _ => ∃ a l s, p = .ref a ∧ U8At K H a l s ∧ Q (.bl (decide (s.ms > 0))) H
def SpU (K : Frg) (f : U8 → Int → Bool × U8) : Sp := sp2 fun p o H Q _ => ∃ a l s b, p = .ref a ∧ o = .int b ∧ U8At K H a l s ∧ s.ps.length < sizeLine ∧ ∀ H', U8At K H' a l (f s b).2 → But a l H H' → Q (.bl (f s b).1) H'
def sp_Utf8__go_on (K : Frg) : Sp := SpU K u8go
def sp_Utf8__begin (K : Frg) : Sp := SpU K u8start
def sp_Utf8_take (K : Frg) : Sp := SpU K u8take





theorem u8_ne {K : Frg} {H : Hp} {a l : Addr} {s : U8} (h : U8At K H a l s) : l ≠ a := by
  obtain ⟨dx, h1, h2⟩ := h
  rintro rfl
  rw [h1] at h2
  cases h2
section
variable {P : Program} {w : World} {K : PySem.W.Frag} {mg : Str → Option Value} {base : Heap} {f : Addr} {fd : FuncData}
theorem ok_Utf8__go_on (F : FunD K "_go_on" "Utf8._go_on" (defArgs s_Utf8__go_on) (defBody s_Utf8__go_on) (defScope s_Utf8__go_on) [] [] (meAd "Utf8" "_go_on" K) fd) (nb : Nm K mg) : Met P w K mg base 1 (C_Utf8 K) "_go_on" (sp_Utf8__go_on K) [] := by
  refine metD F nb.cl_Utf8 nb.me_Utf8__go_on sc_Utf8__go_on (fun _ _ _ _ _ _ us hl => match us, hl with | [_, _], _ => rfl) len2 (fun cdv A outer s H vs Q E hr h => ⟨_, (pss_cons (ps_if (pt_not (pt_chain op_le op_le (pe_fld (pv 0) rfl) (pv 1) (pe_fld (pv 0) rfl)))
    (pss_one (ps_ret pe_bl))
    pss_nil)
    (pss_cons (ps_fld (pv 0) (pe_op op_sub (pe_op op_add (pe_op op_mul (pe_fld (pv 0) rfl) pe_int) (pv 1)) pe_int) rfl)
    (pss_cons (ps_fld (pv 0) pe_int rfl)
    (pss_cons (ps_fld (pv 0) pe_int rfl)
    (pss_cons (ps_fld (pv 0) (pe_op op_sub (pe_fld (pv 0) rfl) pe_int) rfl)
    (pss_cut (ps_if (pt_cmpR op_eq (pe_fld (pv 0) rfl) pe_int (nomark _))
    (pss_one (ps_expr (pe_bm PySem.F.plainAttrs_list PySem.F.slot_list_append PySem.F.type_list_append mt_append (pe_fld (pv 0) rfl) (pa_cons (pe_fld (pv 0) rfl) pa_nil))))
    pss_nil)
    (pss_one (ps_ret pe_bl)))))))), ?_⟩)
  obtain ⟨_, _, rfl, a, l, s, b, rfl, rfl, hU, hl, h⟩ := h
  have hne := u8_ne hU
  obtain ⟨dx, hA, hL⟩ := id hU
  walk_at "rd"
  refine r_fget hA nb.cl_Utf8 nb.na_Utf8__least lk_Utf8__least ?_
  walk_at "rd"
  have no : (¬ (s.le ≤ b ∧ b ≤ s.mo)) → Q (.bl false) H := fun c => by
    have e : u8go s b = (false, s) := by
      unfold u8go
      rw [if_neg c]
    rw [e] at h
    exact h H hU (fun _ _ _ _ z => z)
  refine r_ite (fun c1 => ?_) (fun c1 => ?_)
  · walk_at "rd"
    refine r_fget hA nb.cl_Utf8 nb.na_Utf8__most lk_Utf8__most ?_
    walk_at "rd"
    refine r_iten (fun c2 => ?_) (fun c2 => ?_)
    · walk_at "rd"
      exact no fun z => c2 z.2
    have e : u8go s b = (true, ⟨if s.ms - 1 = 0 then s.ps ++ [s.wo * 64 + b - 128] else s.ps, s.ms - 1, s.wo * 64 + b - 128, 128, 191⟩) := by
      unfold u8go
      rw [if_pos ⟨c1, c2⟩]
    rw [e] at h
    walk_at "rd"
    refine r_fget hA nb.cl_Utf8 nb.na_Utf8__worth lk_Utf8__worth ?_
    walk_at "rd"
    walk_at "rd"
    refine r_fsetK hA nb.cl_Utf8 nb.na_Utf8__worth (few_Utf8) pt_Utf8__worth fun H1 hA1 f1 => ?_
    walk_at "rd"
    refine r_fsetK hA1 nb.cl_Utf8 nb.na_Utf8__least (few_Utf8) pt_Utf8__least fun H2 hA2 f2 => ?_
    walk_at "rd"
    refine r_fsetK hA2 nb.cl_Utf8 nb.na_Utf8__most (few_Utf8) pt_Utf8__most fun H3 hA3 f3 => ?_
    walk_at "rd"
    refine r_fget hA3 nb.cl_Utf8 nb.na_Utf8__missing lk_Utf8__missing ?_
    walk_at "rd"
    refine r_fsetK hA3 nb.cl_Utf8 nb.na_Utf8__missing (few_Utf8) pt_Utf8__missing fun H4 hA4 f4 => ?_
    have hL4 : H4 l = some (.lst (s.ps.map V.int)) := by rw [f4 l hne, f3 l hne, f2 l hne, f1 l hne]; exact hL
    have b4 : But a l H H4 := fun p u p1 p2 z => by rw [f4 p p1, f3 p p1, f2 p p1, f1 p p1]; exact z
    refine r_cut (fun _ H' => U8At K H' a l ⟨if s.ms - 1 = 0 then s.ps ++ [s.wo * 64 + b - 128] else s.ps, s.ms - 1, s.wo * 64 + b - 128, 128, 191⟩ ∧ But a l H H') ?_ ?_
    · walk_at "rd"
      refine r_fget hA4 nb.cl_Utf8 nb.na_Utf8__missing lk_Utf8__missing ?_
      walk_at "rd"
      refine r_ite (fun c3 => ?_) (fun c3 => ?_)
      · walk_at "rd"
        refine r_fget hA4 nb.cl_Utf8 nb.na_Utf8_points lk_Utf8_points ?_
        refine ⟨tyL hL4, ?_⟩
        walk_at "rd"
        refine r_fget hA4 nb.cl_Utf8 nb.na_Utf8__worth lk_Utf8__worth ?_
        walk_at "rd"
        refine r_appK hL4 (by simpa using hl) fun H5 hL5 f5 => ?_
        rw [if_pos c3]
        refine ⟨⟨dx, ?_, ?_⟩, fun p u p1 p2 z => ?_⟩
        · rw [f5 a (Ne.symm hne)]
          exact hA4
        · rw [hL5, map_snoc]
        · rw [f5 p p2]
          exact b4 p u p1 p2 z
      · walk_at "rd"
        rw [if_neg c3]
        exact ⟨⟨dx, hA4, hL4⟩, b4⟩
    rintro σ' H' ⟨g1, g2⟩
    walk_at "rd"
    exact h _ g1 g2
  · walk_at "rd"
    exact no fun z => c1 z.1
theorem ok_Utf8_is_open (F : FunD K "is_open" "Utf8.is_open" (defArgs s_Utf8_is_open) (defBody s_Utf8_is_open) (defScope s_Utf8_is_open) [] [] (prAd "Utf8" "is_open" K) fd) (nb : Nm K mg) : Prp P w K mg base 1 (C_Utf8 K) "is_open" (sp_Utf8_is_open K) := by
  refine prpD F nb.cl_Utf8 nb.pr_Utf8_is_open sc_Utf8_is_open (fun _ _ _ _ _ _ us hl => match us, hl with | [_], _ => rfl) len1 (fun cdv A outer s H vs Q E hr h => ⟨_, (pss_one (ps_ret (pe_cmpR op_gt (pe_fld (pv 0) rfl) pe_int (nomark _)))), ?_⟩)
  obtain ⟨_, rfl, a, l, s, rfl, ⟨dx, hA, hL⟩, h⟩ := h
  walk_at "rd"
  refine r_fget hA nb.cl_Utf8 nb.na_Utf8__missing lk_Utf8__missing ?_
  walk_at "rd"
  exact h
theorem ok_Utf8___init__ (F : FunD K "__init__" "Utf8.__init__" (defArgs s_Utf8___init__) (defBody s_Utf8___init__) (defScope s_Utf8___init__) [] [] (meAd "Utf8" "__init__" K) fd) (nb : Nm K mg) : Mak P w K mg base 1 "Utf8" (C_Utf8 K) (sp_Utf8___init__ K) [] := by
  refine makD F nb.mk_Utf8 nb.g_Utf8 sc_Utf8___init__ (fun _ _ _ _ _ _ us hl => match us, hl with | [_], _ => rfl) len1 (fun cdv A outer s H vs Q E hr h => ⟨_, (pss_cons (ps_fld (pv 0) (pe_lst pa_nil) rfl)
    (pss_cons (ps_fld (pv 0) pe_int rfl)
    (pss_cons (ps_fld (pv 0) pe_int rfl)
    (pss_cons (ps_fld (pv 0) pe_int rfl)
    (pss_one (ps_fld (pv 0) pe_int rfl)))))), ?_⟩)
  obtain ⟨_, rfl, a, dx, rfl, hA, h⟩ := h
  walk_at "rd"
  refine ⟨by show 0 ≤ sizeLine; decide, fun l hl => ?_⟩
  have hne : l ≠ a := fun z => by rw [z, hA] at hl; cases hl
  have hA0 : upd H l (.lst []) a = some (.ins (C_Utf8 K) dx []) := (upd_ne (Ne.symm hne)).trans hA
  have hL0 : upd H l (.lst []) l = some (.lst []) := upd_same
  have f0 : ∀ b u, b ≠ a → H b = some u → upd H l (.lst []) b = some u := fun b u h1 h2 => same_upd hl _ b u h2
  generalize upd H l (.lst []) = H0 at hA0 hL0 f0 ⊢
  walk_at "rd"
  refine r_fsetK hA0 nb.cl_Utf8 nb.na_Utf8_points (by decide) (in_Utf8_points) fun H1 hA1 f1 => ?_
  walk_at "rd"
  refine r_fsetK hA1 nb.cl_Utf8 nb.na_Utf8__missing (by simp) (in_Utf8__missing) fun H2 hA2 f2 => ?_
  walk_at "rd"
  refine r_fsetK hA2 nb.cl_Utf8 nb.na_Utf8__worth (by simp) (in_Utf8__worth) fun H3 hA3 f3 => ?_
  walk_at "rd"
  refine r_fsetK hA3 nb.cl_Utf8 nb.na_Utf8__least (by simp) (in_Utf8__least) fun H4 hA4 f4 => ?_
  walk_at "rd"
  refine r_fsetK hA4 nb.cl_Utf8 nb.na_Utf8__most (by simp) (in_Utf8__most) fun H5 hA5 f5 => ?_
  refine h l H5 hl hne ⟨dx, hA5, ?_⟩ fun p u p1 z => ?_
  · rw [f5 l hne, f4 l hne, f3 l hne, f2 l hne, f1 l hne]
    exact hL0
  · rw [f5 p p1, f4 p p1, f3 p p1, f2 p p1, f1 p p1]
    exact f0 p u p1 z
theorem ok_Utf8_take (F : FunD K "take" "Utf8.take" (defArgs s_Utf8_take) (defBody s_Utf8_take) (defScope s_Utf8_take) [] [] (meAd "Utf8" "take" K) fd) (nb : Nm K mg) (m_Utf8__begin : Met P w K mg base 1 (C_Utf8 K) "_begin" (sp_Utf8__begin K) []) (m_Utf8__go_on : Met P w K mg base 1 (C_Utf8 K) "_go_on" (sp_Utf8__go_on K) []) : Met P w K mg base 2 (C_Utf8 K) "take" (sp_Utf8_take K) [] := by
  refine metD F nb.cl_Utf8 nb.me_Utf8_take sc_Utf8_take (fun _ _ _ _ _ _ us hl => match us, hl with | [_, _], _ => rfl) len2 (fun cdv A outer s H vs Q E hr h => ⟨_, (pss_cons (ps_if (pt_cmpR op_gt (pe_fld (pv 0) rfl) pe_int (nomark _))
    (pss_one (ps_ret (pe_mt m_Utf8__go_on hr (by decide) (pv 0) (pa_cons (pv 1) pa_nil))))
    pss_nil)
    (pss_cons (ps_if (pt_cmpR op_lt (pv 1) pe_int (nomark _))
    (pss_cons (ps_expr (pe_bm PySem.F.plainAttrs_list PySem.F.slot_list_append PySem.F.type_list_append mt_append (pe_fld (pv 0) rfl) (pa_cons (pv 1) pa_nil)))
    (pss_one (ps_ret pe_bl)))
    pss_nil)
    (pss_one (ps_ret (pe_mt m_Utf8__begin hr (by decide) (pv 0) (pa_cons (pv 1) pa_nil)))))), ?_⟩)
  obtain ⟨_, _, rfl, a, l, s, b, rfl, rfl, hU, hl, h⟩ := h
  have hne := u8_ne hU
  obtain ⟨dx, hA, hL⟩ := id hU
  walk_at "rd"
  refine r_fget hA nb.cl_Utf8 nb.na_Utf8__missing lk_Utf8__missing ?_
  walk_at "rd"
  unfold u8take at h
  refine r_ite (fun c1 => ?_) (fun c1 => ?_)
  · rw [if_pos c1] at h
    walk_at "rd"
    refine r_mget hA no_Utf8__go_on ?_
    walk_at "rd"
    exact ⟨_, _, rfl, a, l, s, b, rfl, rfl, hU, hl, h⟩
  · rw [if_neg c1] at h
    walk_at "rd"
    refine r_ite (fun c2 => ?_) (fun c2 => ?_)
    · rw [if_pos c2] at h
      walk_at "rd"
      refine r_fget hA nb.cl_Utf8 nb.na_Utf8_points lk_Utf8_points ?_
      refine ⟨tyL hL, ?_⟩
      walk_at "rd"
      refine r_appK hL (by simpa using hl) fun H5 hL5 f5 => ?_
      walk_at "rd"
      refine h H5 ⟨dx, ?_, ?_⟩ fun p u p1 p2 z => ?_
      · rw [f5 a (Ne.symm hne)]
        exact hA
      · rw [hL5, map_snoc]
      · rw [f5 p p2]
        exact z
    · rw [if_neg c2] at h
      walk_at "rd"
      refine r_mget hA no_Utf8__begin ?_
      walk_at "rd"
      exact ⟨_, _, rfl, a, l, s, b, rfl, rfl, hU, hl, h⟩
end


def mm8 (c : Int) : Int := if c < 2048 then 1 else if c < 65536 then 2 else 3
theorem mm8_is (c : Int) : mm8 c = 1 ∨ mm8 c = 2 ∨ mm8 c = 3 := by
  unfold mm8
  split
  · exact .inl rfl
  · split
    · exact .inr (.inl rfl)
    · exact .inr (.inr rfl)
theorem enc_low {c : Int} (h : c < 128) : enc1 c = [c] := if_pos h
theorem enc_long {c : Int} (hc : 128 ≤ c) : (c < 2048 ∧ mm8 c = 1 ∧ enc1 c = [192 + c / 64, 128 + c % 64]) ∨ (2048 ≤ c ∧ c < 65536 ∧ mm8 c = 2 ∧ enc1 c = [224 + c / 4096, 128 + c / 64 % 64, 128 + c % 64]) ∨
    (65536 ≤ c ∧ mm8 c = 3 ∧ enc1 c = [240 + c / 262144, 128 + c / 4096 % 64, 128 + c / 64 % 64, 128 + c % 64]) := by
  have h0 : ¬ c < 128 := by omega
  by_cases c1 : c < 2048
  · refine .inl ⟨c1, if_pos c1, ?_⟩
    unfold enc1
    rw [if_neg h0, if_pos c1]
  · by_cases c2 : c < 65536
    · refine .inr (.inl ⟨by omega, c2, ?_, ?_⟩)
      · unfold mm8
        rw [if_neg c1, if_pos c2]
      · unfold enc1
        rw [if_neg h0, if_neg c1, if_pos c2]
    · refine .inr (.inr ⟨by omega, ?_, ?_⟩)
      · unfold mm8
        rw [if_neg c1, if_neg c2]
      · unfold enc1
        rw [if_neg h0, if_neg c1, if_neg c2]
theorem long_zero {c : Int} (hc : 128 ≤ c) : [mark8 (mm8 c) + c / 2 ^ (6 * mm8 c).toNat] = (enc1 c).take 1 := by
  rcases enc_long hc with ⟨_, e1, e2⟩ | ⟨_, _, e1, e2⟩ | ⟨_, e1, e2⟩ <;> rw [e1, e2] <;> rfl
theorem long_step {c : Int} {i : Nat} (hc : 128 ≤ c) (hi : i < (mm8 c).toNat) : (enc1 c).take (i + 1) ++ [128 + c / 2 ^ (6 * mm8 c - 6 + (i : Int) * (-6)).toNat % 64] = (enc1 c).take (i + 2) := by
  rcases enc_long hc with ⟨_, e1, e2⟩ | ⟨_, _, e1, e2⟩ | ⟨_, e1, e2⟩
  · rw [e1] at hi ⊢
    rw [e2]
    have e : i = 0 := by
      have : i < 1 := hi
      omega
    subst e
    show [192 + c / 64, 128 + c / 1 % 64] = [192 + c / 64, 128 + c % 64]
    rw [Int.ediv_one]
  · rw [e1] at hi ⊢
    rw [e2]
    have e : i = 0 ∨ i = 1 := by
      have : i < 2 := hi
      omega
    rcases e with e | e
    · subst e
      rfl
    · subst e
      show [224 + c / 4096, 128 + c / 64 % 64, 128 + c / 1 % 64] = [224 + c / 4096, 128 + c / 64 % 64, 128 + c % 64]
      rw [Int.ediv_one]
  · rw [e1] at hi ⊢
    rw [e2]
    have e : i = 0 ∨ i = 1 ∨ i = 2 := by
      have : i < 3 := hi
      omega
    rcases e with e | e | e
    · subst e
      rfl
    · subst e
      rfl
    · subst e
      show [240 + c / 262144, 128 + c / 4096 % 64, 128 + c / 64 % 64, 128 + c / 1 % 64] = [240 + c / 262144, 128 + c / 4096 % 64, 128 + c / 64 % 64, 128 + c % 64]
      rw [Int.ediv_one]
theorem long_all {c : Int} (hc : 128 ≤ c) : (enc1 c).take ((mm8 c).toNat + 1) = enc1 c := by
  rcases enc_long hc with ⟨_, e1, e2⟩ | ⟨_, _, e1, e2⟩ | ⟨_, e1, e2⟩ <;> rw [e1, e2] <;> rfl
theorem mark8_at (m : Int) (h : m = 1 ∨ m = 2 ∨ m = 3) : atI ([0, 192, 224, 240].map V.int) m = some (.int (mark8 m)) := by
  rcases h with e | e | e <;> rw [e] <;> rfl
theorem rows8_m : ∀ r ∈ rows8, r.m = 1 ∨ r.m = 2 ∨ r.m = 3 := by decide
theorem len_enc1 (c : Int) : 1 ≤ (enc1 c).length ∧ (enc1 c).length ≤ 4 := by
  by_cases h : c < 128
  · rw [enc_low h]
    simp
  · rcases enc_long (by omega : 128 ≤ c) with ⟨_, _, e2⟩ | ⟨_, _, _, e2⟩ | ⟨_, _, e2⟩ <;> rw [e2] <;> simp
theorem len_encs : ∀ cs : List Int, (encs cs).length ≤ 4 * cs.length
  | [] => Nat.le_refl _
  | c :: cs => by
    have h := len_encs cs
    have g := (len_enc1 c).2
    show (enc1 c ++ encs cs).length ≤ _
    rw [List.length_append, List.length_cons]
    omega
theorem encs_snoc (cs : List Int) (c : Int) : encs (cs ++ [c]) = encs cs ++ enc1 c := by
  unfold encs
  rw [List.flatMap_append]
  simp
section
variable {P : Program} {w : World} {K : PySem.W.Frag} {mg : Str → Option Value} {base : Heap} {f : Addr} {fd : FuncData}
theorem ok_Utf8__begin (F : FunD K "_begin" "Utf8._begin" (defArgs s_Utf8__begin) (defBody s_Utf8__begin) (defScope s_Utf8__begin) [] [] (meAd "Utf8" "_begin" K) fd) (nb : Nm K mg) : Met P w K mg base 1 (C_Utf8 K) "_begin" (sp_Utf8__begin K) [] := by
  obtain ⟨v_FIRSTS, u_FIRSTS, e_FIRSTS, r_FIRSTS, k_FIRSTS⟩ := nb.g_FIRSTS
  obtain ⟨v_MARKS, u_MARKS, e_MARKS, r_MARKS, k_MARKS⟩ := nb.g_MARKS
  refine metD F nb.cl_Utf8 nb.me_Utf8__begin sc_Utf8__begin (fun _ _ _ _ _ _ us hl => match us, hl with | [_, _], _ => rfl) len2 (fun cdv A outer s H vs Q E hr h => ⟨_, (pss_cons (ps_for PassesOwn.never rfl (pi_tup (pe_gc rfl ⟨u_FIRSTS, e_FIRSTS, r_FIRSTS⟩)) (pg_tup rfl (pgs_cons (pg_name (i := 2) sc_Utf8__begin.nd rfl (Or.inl rfl)) (pgs_cons (pg_name (i := 3) sc_Utf8__begin.nd rfl (Or.inl rfl)) (pgs_cons (pg_name (i := 4) sc_Utf8__begin.nd rfl (Or.inl rfl)) (pgs_cons (pg_name (i := 5) sc_Utf8__begin.nd rfl (Or.inl rfl)) (pgs_cons (pg_name (i := 6) sc_Utf8__begin.nd rfl (Or.inl rfl)) pgs_nil))))))
    (pss_one (ps_if (pt_chain op_le op_le (pv 2) (pv 1) (pv 3))
    (pss_cons (ps_fld (pv 0) (pv 4) rfl)
    (pss_cons (ps_fld (pv 0) (pe_op op_sub (pv 1) (pe_ix ix_tup (pe_gc rfl ⟨u_MARKS, e_MARKS, r_MARKS⟩) (pv 4) (fun _ _ => rfl))) rfl)
    (pss_cons (ps_fld (pv 0) (pv 5) rfl)
    (pss_cons (ps_fld (pv 0) (pv 6) rfl)
    (pss_one (ps_ret pe_bl))))))
    pss_nil)))
    (pss_one (ps_ret pe_bl))), ?_⟩)
  obtain ⟨_, _, rfl, a, l, s, b, rfl, rfl, hU, hl, h⟩ := h
  have hne := u8_ne hU
  obtain ⟨dx, hA, hL⟩ := id hU
  obtain ⟨tf, xs, rfl, hT, hD⟩ := dp_tup (k_FIRSTS H)
  have hD : DpAll K H xs (rows8.map U8R.dat) := hD
  have eN : xs.length = rows8.length := by rw [dp_len hD, List.length_map]
  walk_at "rd"
  refine ⟨tf, rfl, ⟨xs, hT⟩, r_eachT (xs := xs) (fun i σ H' => H = H' ∧ (∀ j row, j < i → rows8[j]? = some row → row.is b = false) ∧ ∃ y1 y2 y3 y4 y5, σ = [some (.ref a), some (.int b), y1, y2, y3, y4, y5])
    ⟨rfl, fun j row h => absurd h (Nat.not_lt_zero _), _, _, _, _, _, rfl⟩ ?_ ?_ ?_⟩
  · rintro i σ _ ⟨rfl, _⟩
    exact hT
  · rintro i x σ _ hx ⟨rfl, hj, y1, y2, y3, y4, y5, rfl⟩
    obtain ⟨d, hd, hxd⟩ := dp_get hD hx
    rw [List.getElem?_map] at hd
    obtain ⟨row, hrow, rfl⟩ := Option.map_eq_some_iff.mp hd
    obtain ⟨tr, zs, rfl, hr, hz⟩ := dp_tup (show Dp K H x (.tuple ([row.f, row.l, row.m, row.le, row.mo].map PyData.int)) from hxd)
    have hz := dp_ints _ hz
    subst hz
    have hm := rows8_m row (List.mem_of_getElem? hrow)
    have hr : SqT K H tr [.int row.f, .int row.l, .int row.m, .int row.le, .int row.mo] := hr
    refine r_gtup hr rfl ?_
    walk_at "rd"
    refine r_ite (fun c1 => ?_) (fun c1 => ?_)
    · walk_at "rd"
      refine r_ite (fun c2 => ?_) (fun c2 => ?_)
      · have hf : rows8.find? (·.is b) = some row := by
          obtain ⟨hi, ei⟩ := List.getElem?_eq_some_iff.mp hrow
          refine List.find?_eq_some_iff_getElem.mpr ⟨?_, i, hi, ei, fun j hji => ?_⟩
          · exact decide_eq_true ⟨c1, c2⟩
          · rw [hj j _ hji (List.getElem?_eq_getElem (Nat.lt_trans hji hi))]
            rfl
        have e : u8start s b = (true, ⟨s.ps, row.m, b - mark8 row.m, row.le, row.mo⟩) := by
          unfold u8start
          rw [hf]
        rw [e] at h
        walk_at "rd"
        refine r_fsetK hA nb.cl_Utf8 nb.na_Utf8__missing (few_Utf8) pt_Utf8__missing fun H1 hA1 f1 => ?_
        obtain ⟨tm, ys, rfl, hM, hE⟩ := dp_tup (k_MARKS H1)
        have hE : ys = [0, 192, 224, 240].map V.int := dp_ints _ hE
        subst hE
        walk_at "rd"
        refine r_ixT hM (mark8_at row.m hm) ?_
        walk_at "rd"
        refine r_fsetK hA1 nb.cl_Utf8 nb.na_Utf8__worth (few_Utf8) pt_Utf8__worth fun H2 hA2 f2 => ?_
        walk_at "rd"
        refine r_fsetK hA2 nb.cl_Utf8 nb.na_Utf8__least (few_Utf8) pt_Utf8__least fun H3 hA3 f3 => ?_
        walk_at "rd"
        refine r_fsetK hA3 nb.cl_Utf8 nb.na_Utf8__most (few_Utf8) pt_Utf8__most fun H4 hA4 f4 => ?_
        walk_at "rd"
        refine h H4 ⟨dx, hA4, ?_⟩ fun p u p1 p2 z => ?_
        · rw [f4 l hne, f3 l hne, f2 l hne, f1 l hne]
          exact hL
        · rw [f4 p p1, f3 p p1, f2 p p1, f1 p p1]
          exact z
      · walk_at "rd"
        refine ⟨rfl, fun j row' hji hr' => ?_, _, _, _, _, _, rfl⟩
        by_cases e : j = i
        · subst e
          rw [hrow] at hr'
          cases hr'
          exact decide_eq_false fun z => c2 z.2
        · exact hj j row' (by omega) hr'
    · walk_at "rd"
      refine ⟨rfl, fun j row' hji hr' => ?_, _, _, _, _, _, rfl⟩
      by_cases e : j = i
      · subst e
        rw [hrow] at hr'
        cases hr'
        exact decide_eq_false fun z => c1 z.1
      · exact hj j row' (by omega) hr'
  · rintro σ _ ⟨rfl, hj, y1, y2, y3, y4, y5, rfl⟩
    have hf : rows8.find? (·.is b) = none := by
      refine List.find?_eq_none.mpr fun row hr => ?_
      obtain ⟨j, hjl, ej⟩ := List.getElem_of_mem hr
      rw [hj j row (by rw [eN]; exact hjl) (by rw [List.getElem?_eq_getElem hjl, ej])]
      decide
    have e : u8start s b = (false, s) := by
      unfold u8start
      rw [hf]
    rw [e] at h
    walk_at "rd"
    exact h H hU fun _ _ _ _ z => z
theorem row_same {H H' : Hp} {a : Addr} {zs : List Int} (h : RowAt H a zs) (s : Same H H') : RowAt H' a zs := h.elim (fun h => .inl (s _ _ h)) fun h => .inr (s _ _ h)
end


def u8run (s : U8) : List Int → Option U8
  | [] => some s
  | b :: bs => if (u8take s b).1 = true then u8run (u8take s b).2 bs else none
theorem u8run_snoc : ∀ (zs : List Int) (s t : U8) (z : Int), u8run s zs = some t → (u8take t z).1 = true → u8run s (zs ++ [z]) = some (u8take t z).2
  | [], s, t, z, h, e => by
    cases h
    show (if (u8take s z).1 = true then some (u8take s z).2 else none) = _
    rw [if_pos e]
  | b :: bs, s, t, z, h, e => by
    unfold u8run at h
    show (if (u8take s b).1 = true then u8run (u8take s b).2 (bs ++ [z]) else none) = _
    by_cases c : (u8take s b).1 = true
    · rw [if_pos c] at h ⊢
      exact u8run_snoc bs _ t z h e
    · rw [if_neg c] at h
      cases h
theorem u8run_app : ∀ (l rest : List Int) (S : Nat → U8), (∀ k b, l[k]? = some b → u8take (S k) b = (true, S (k + 1))) → u8run (S 0) (l ++ rest) = u8run (S l.length) rest
  | [], rest, S, _ => rfl
  | b :: bs, rest, S, h => by
    have e := h 0 b rfl
    show (if (u8take (S 0) b).1 = true then u8run (u8take (S 0) b).2 (bs ++ rest) else none) = _
    rw [e, if_pos rfl]
    exact u8run_app bs rest (fun k => S (k + 1)) fun k b' hb => h (k + 1) b' hb
theorem len_if {p : Prop} [Decidable p] (ps : List Int) (x : Int) : (if p then ps ++ [x] else ps).length ≤ ps.length + 1 := by
  split
  · simp
  · omega
theorem u8take_len (s : U8) (b : Int) : (u8take s b).2.ps.length ≤ s.ps.length + 1 := by
  unfold u8take
  split
  · unfold u8go
    split
    · exact len_if s.ps _
    · exact Nat.le_succ _
  · split
    · show (s.ps ++ [b]).length ≤ _
      simp
    · unfold u8start
      split
      · exact Nat.le_succ _
      · exact Nat.le_succ _
theorem rows8_up : ∀ i < 8, ∀ j < i, ∀ r q, rows8[i]? = some r → rows8[j]? = some q → q.l < r.f := by
  intro i hi j hj r q h1 h2
  have e : (i = 0 ∨ i = 1 ∨ i = 2 ∨ i = 3 ∨ i = 4 ∨ i = 5 ∨ i = 6 ∨ i = 7) := by omega
  have e' : (j = 0 ∨ j = 1 ∨ j = 2 ∨ j = 3 ∨ j = 4 ∨ j = 5 ∨ j = 6 ∨ j = 7) := by omega
  rcases e with e | e | e | e | e | e | e | e <;> subst e <;> cases h1 <;> (rcases e' with e | e | e | e | e | e | e | e <;> subst e <;> cases h2 <;> first | decide | (exfalso; omega))
theorem u8start_eq (s : U8) (b : Int) (i : Nat) (r : U8R) (hi : rows8[i]? = some r) (h : r.f ≤ b ∧ b ≤ r.l) : u8start s b = (true, ⟨s.ps, r.m, b - mark8 r.m, r.le, r.mo⟩) := by
  have hf : rows8.find? (·.is b) = some r := by
    obtain ⟨hl, ei⟩ := List.getElem?_eq_some_iff.mp hi
    refine List.find?_eq_some_iff_getElem.mpr ⟨decide_eq_true h, i, hl, ei, fun j hj => ?_⟩
    have := rows8_up i hl j hj r rows8[j] hi (List.getElem?_eq_getElem (Nat.lt_trans hj hl))
    have e : U8R.is rows8[j] b = false := decide_eq_false (by omega)
    rw [e]
    rfl
  unfold u8start
  rw [hf]
def oc0 (c : Int) : Int := if c < 2048 then 192 + c / 64 else if c < 65536 then 224 + c / 4096 else 240 + c / 262144
def oc1 (c : Int) : Int := if c < 2048 then 128 + c % 64 else if c < 65536 then 128 + c / 64 % 64 else 128 + c / 4096 % 64
theorem row_of {c : Int} (hc : 128 ≤ c) (hP : Point c) : ∃ (i : Nat) (r : U8R), rows8[i]? = some r ∧ (r.f ≤ oc0 c ∧ oc0 c ≤ r.l) ∧ r.m = mm8 c ∧ r.le ≤ oc1 c ∧ oc1 c ≤ r.mo := by
  obtain ⟨p1, p2, p3⟩ := hP
  unfold oc0 oc1 mm8
  by_cases c1 : c < 2048
  · rw [if_pos c1, if_pos c1, if_pos c1]
    exact ⟨0, _, rfl, ⟨by show (194 : Int) ≤ _; omega, by show _ ≤ (223 : Int); omega⟩, rfl, by show (128 : Int) ≤ _; omega, by show _ ≤ (191 : Int); omega⟩
  rw [if_neg c1, if_neg c1, if_neg c1]
  by_cases c2 : c < 65536
  · rw [if_pos c2, if_pos c2, if_pos c2]
    by_cases d1 : c < 4096
    · exact ⟨1, _, rfl, ⟨by show (224 : Int) ≤ _; omega, by show _ ≤ (224 : Int); omega⟩, rfl, by show (160 : Int) ≤ _; omega, by show _ ≤ (191 : Int); omega⟩
    by_cases d2 : c < 53248
    · exact ⟨2, _, rfl, ⟨by show (225 : Int) ≤ _; omega, by show _ ≤ (236 : Int); omega⟩, rfl, by show (128 : Int) ≤ _; omega, by show _ ≤ (191 : Int); omega⟩
    by_cases d3 : c < 57344
    · exact ⟨3, _, rfl, ⟨by show (237 : Int) ≤ _; omega, by show _ ≤ (237 : Int); omega⟩, rfl, by show (128 : Int) ≤ _; omega, by show _ ≤ (159 : Int); omega⟩
    · exact ⟨4, _, rfl, ⟨by show (238 : Int) ≤ _; omega, by show _ ≤ (239 : Int); omega⟩, rfl, by show (128 : Int) ≤ _; omega, by show _ ≤ (191 : Int); omega⟩
  · rw [if_neg c2, if_neg c2, if_neg c2]
    by_cases d1 : c < 262144
    · exact ⟨5, _, rfl, ⟨by show (240 : Int) ≤ _; omega, by show _ ≤ (240 : Int); omega⟩, rfl, by show (144 : Int) ≤ _; omega, by show _ ≤ (191 : Int); omega⟩
    by_cases d2 : c < 1048576
    · exact ⟨6, _, rfl, ⟨by show (241 : Int) ≤ _; omega, by show _ ≤ (243 : Int); omega⟩, rfl, by show (128 : Int) ≤ _; omega, by show _ ≤ (191 : Int); omega⟩
    · exact ⟨7, _, rfl, ⟨by show (244 : Int) ≤ _; omega, by show _ ≤ (244 : Int); omega⟩, rfl, by show (128 : Int) ≤ _; omega, by show _ ≤ (143 : Int); omega⟩
theorem take_start {s : U8} {b : Int} (h0 : s.ms = 0) (h1 : 128 ≤ b) : u8take s b = u8start s b := by
  unfold u8take
  rw [if_neg (by omega), if_neg (by omega)]
theorem take_go {s : U8} {b : Int} (h0 : 0 < s.ms) (h1 : s.le ≤ b ∧ b ≤ s.mo) : u8take s b = (true, ⟨if s.ms - 1 = 0 then s.ps ++ [s.wo * 64 + b - 128] else s.ps, s.ms - 1, s.wo * 64 + b - 128, 128, 191⟩) := by
  unfold u8take u8go
  rw [if_pos h0, if_pos h1]
theorem take_low {s : U8} {b : Int} (h0 : s.ms = 0) (h1 : b < 128) : u8take s b = (true, { s with ps := s.ps ++ [b] }) := by
  unfold u8take
  rw [if_neg (by omega), if_pos h1]
theorem mid_of {w b : Int} : (128 : Int) ≤ 128 + w % 64 ∧ 128 + w % 64 ≤ 191 := by omega
/-- the states over one character's octets -/
theorem u8char {c : Int} (hP : Point c) (s : U8) (h0 : s.ms = 0) : ∃ S : Nat → U8, S 0 = s ∧ (∀ k b, (enc1 c)[k]? = some b → u8take (S k) b = (true, S (k + 1))) ∧ (S (enc1 c).length).ms = 0 ∧ (S (enc1 c).length).ps = s.ps ++ [c] ∧
    ∀ k, k < (enc1 c).length → (S k).ps = s.ps ∧ (0 < k → 0 < (S k).ms) := by
  by_cases hc : c < 128
  · rw [enc_low hc]
    refine ⟨fun k => match k with | 0 => s | _ => { s with ps := s.ps ++ [c] }, rfl, fun k b hb => ?_, h0, rfl, fun k hk => ?_⟩
    · match k, hb with
      | 0, hb =>
        cases hb
        exact take_low h0 hc
      | k + 1, hb => cases hb
    · match k, hk with
      | 0, _ => exact ⟨rfl, fun h => absurd h (by decide)⟩
      | k + 1, hk => exact absurd hk (by simp)
  have hc : 128 ≤ c := by omega
  obtain ⟨i, r, hr, hf, hm, hl, hmo⟩ := row_of hc hP
  have hP1 := hP.1
  have hP2 := hP.2.1
  rcases enc_long hc with ⟨c1, e1, e2⟩ | ⟨c1, c2, e1, e2⟩ | ⟨c1, e1, e2⟩
  · have o0 : oc0 c = 192 + c / 64 := if_pos c1
    have o1 : oc1 c = 128 + c % 64 := if_pos c1
    rw [o0] at hf
    rw [o1] at hl hmo
    rw [e1] at hm
    rw [e2]
    have t0 := (take_start (b := 192 + c / 64) h0 (by omega)).trans (u8start_eq s (192 + c / 64) i r hr hf)
    rw [hm] at t0
    have t1 := take_go (s := ⟨s.ps, 1, 192 + c / 64 - mark8 1, r.le, r.mo⟩) (b := 128 + c % 64) (by show (0 : Int) < 1; decide) ⟨hl, hmo⟩
    refine ⟨fun k => match k with | 0 => s | 1 => ⟨s.ps, 1, 192 + c / 64 - mark8 1, r.le, r.mo⟩ | _ => ⟨s.ps ++ [(192 + c / 64 - mark8 1) * 64 + (128 + c % 64) - 128], 0, (192 + c / 64 - mark8 1) * 64 + (128 + c % 64) - 128, 128, 191⟩, rfl, fun k b hb => ?_, rfl, ?_, fun k hk => ?_⟩
    · match k, hb with
      | 0, hb =>
        cases hb
        exact t0
      | 1, hb =>
        cases hb
        exact t1
      | k + 2, hb => cases hb
    · show s.ps ++ [(192 + c / 64 - 192) * 64 + (128 + c % 64) - 128] = _
      rw [show (192 + c / 64 - 192) * 64 + (128 + c % 64) - 128 = c by omega]
    · match k, hk with
      | 0, _ => exact ⟨rfl, fun h => absurd h (by decide)⟩
      | 1, _ => exact ⟨rfl, fun h => by show (0 : Int) < 1; decide⟩
      | k + 2, hk => exact absurd hk (by simp)
  · have o0 : oc0 c = 224 + c / 4096 := by
      unfold oc0
      rw [if_neg (by omega), if_pos c2]
    have o1 : oc1 c = 128 + c / 64 % 64 := by
      unfold oc1
      rw [if_neg (by omega), if_pos c2]
    rw [o0] at hf
    rw [o1] at hl hmo
    rw [e1] at hm
    rw [e2]
    have t0 := (take_start (b := 224 + c / 4096) h0 (by omega)).trans (u8start_eq s (224 + c / 4096) i r hr hf)
    rw [hm] at t0
    have t1 := take_go (s := ⟨s.ps, 2, 224 + c / 4096 - mark8 2, r.le, r.mo⟩) (b := 128 + c / 64 % 64) (by show (0 : Int) < 2; decide) ⟨hl, hmo⟩
    have t2 := take_go (s := ⟨s.ps, 1, (224 + c / 4096 - mark8 2) * 64 + (128 + c / 64 % 64) - 128, 128, 191⟩) (b := 128 + c % 64) (by show (0 : Int) < 1; decide) ⟨by show (128 : Int) ≤ _; omega, by show _ ≤ (191 : Int); omega⟩
    refine ⟨fun k => match k with | 0 => s | 1 => ⟨s.ps, 2, 224 + c / 4096 - mark8 2, r.le, r.mo⟩ | 2 => ⟨s.ps, 1, (224 + c / 4096 - mark8 2) * 64 + (128 + c / 64 % 64) - 128, 128, 191⟩ | _ => ⟨s.ps ++ [((224 + c / 4096 - mark8 2) * 64 + (128 + c / 64 % 64) - 128) * 64 + (128 + c % 64) - 128], 0, ((224 + c / 4096 - mark8 2) * 64 + (128 + c / 64 % 64) - 128) * 64 + (128 + c % 64) - 128, 128, 191⟩, rfl, fun k b hb => ?_, rfl, ?_, fun k hk => ?_⟩
    · match k, hb with
      | 0, hb =>
        cases hb
        exact t0
      | 1, hb =>
        cases hb
        exact t1
      | 2, hb =>
        cases hb
        exact t2
      | k + 3, hb => cases hb
    · show s.ps ++ [((224 + c / 4096 - 224) * 64 + (128 + c / 64 % 64) - 128) * 64 + (128 + c % 64) - 128] = _
      rw [show ((224 + c / 4096 - 224) * 64 + (128 + c / 64 % 64) - 128) * 64 + (128 + c % 64) - 128 = c by omega]
    · match k, hk with
      | 0, _ => exact ⟨rfl, fun h => absurd h (by decide)⟩
      | 1, _ => exact ⟨rfl, fun h => by show (0 : Int) < 2; decide⟩
      | 2, _ => exact ⟨rfl, fun h => by show (0 : Int) < 1; decide⟩
      | k + 3, hk => exact absurd hk (by simp)
  · have o0 : oc0 c = 240 + c / 262144 := by
      unfold oc0
      rw [if_neg (by omega), if_neg (by omega)]
    have o1 : oc1 c = 128 + c / 4096 % 64 := by
      unfold oc1
      rw [if_neg (by omega), if_neg (by omega)]
    rw [o0] at hf
    rw [o1] at hl hmo
    rw [e1] at hm
    rw [e2]
    have t0 := (take_start (b := 240 + c / 262144) h0 (by omega)).trans (u8start_eq s (240 + c / 262144) i r hr hf)
    rw [hm] at t0
    have t1 := take_go (s := ⟨s.ps, 3, 240 + c / 262144 - mark8 3, r.le, r.mo⟩) (b := 128 + c / 4096 % 64) (by show (0 : Int) < 3; decide) ⟨hl, hmo⟩
    have t2 := take_go (s := ⟨s.ps, 2, (240 + c / 262144 - mark8 3) * 64 + (128 + c / 4096 % 64) - 128, 128, 191⟩) (b := 128 + c / 64 % 64) (by show (0 : Int) < 2; decide) ⟨by show (128 : Int) ≤ _; omega, by show _ ≤ (191 : Int); omega⟩
    have t3 := take_go (s := ⟨s.ps, 1, ((240 + c / 262144 - mark8 3) * 64 + (128 + c / 4096 % 64) - 128) * 64 + (128 + c / 64 % 64) - 128, 128, 191⟩) (b := 128 + c % 64) (by show (0 : Int) < 1; decide) ⟨by show (128 : Int) ≤ _; omega, by show _ ≤ (191 : Int); omega⟩
    refine ⟨fun k => match k with | 0 => s | 1 => ⟨s.ps, 3, 240 + c / 262144 - mark8 3, r.le, r.mo⟩ | 2 => ⟨s.ps, 2, (240 + c / 262144 - mark8 3) * 64 + (128 + c / 4096 % 64) - 128, 128, 191⟩ | 3 => ⟨s.ps, 1, ((240 + c / 262144 - mark8 3) * 64 + (128 + c / 4096 % 64) - 128) * 64 + (128 + c / 64 % 64) - 128, 128, 191⟩ | _ => ⟨s.ps ++ [(((240 + c / 262144 - mark8 3) * 64 + (128 + c / 4096 % 64) - 128) * 64 + (128 + c / 64 % 64) - 128) * 64 + (128 + c % 64) - 128], 0, (((240 + c / 262144 - mark8 3) * 64 + (128 + c / 4096 % 64) - 128) * 64 + (128 + c / 64 % 64) - 128) * 64 + (128 + c % 64) - 128, 128, 191⟩, rfl, fun k b hb => ?_, rfl, ?_, fun k hk => ?_⟩
    · match k, hb with
      | 0, hb =>
        cases hb
        exact t0
      | 1, hb =>
        cases hb
        exact t1
      | 2, hb =>
        cases hb
        exact t2
      | 3, hb =>
        cases hb
        exact t3
      | k + 4, hb => cases hb
    · show s.ps ++ [(((240 + c / 262144 - 240) * 64 + (128 + c / 4096 % 64) - 128) * 64 + (128 + c / 64 % 64) - 128) * 64 + (128 + c % 64) - 128] = _
      rw [show (((240 + c / 262144 - 240) * 64 + (128 + c / 4096 % 64) - 128) * 64 + (128 + c / 64 % 64) - 128) * 64 + (128 + c % 64) - 128 = c by omega]
    · match k, hk with
      | 0, _ => exact ⟨rfl, fun h => absurd h (by decide)⟩
      | 1, _ => exact ⟨rfl, fun h => by show (0 : Int) < 3; decide⟩
      | 2, _ => exact ⟨rfl, fun h => by show (0 : Int) < 2; decide⟩
      | 3, _ => exact ⟨rfl, fun h => by show (0 : Int) < 1; decide⟩
      | k + 4, hk => exact absurd hk (by simp)
theorem u8run_encs : ∀ (cs : List Int) (s : U8), (∀ c ∈ cs, Point c) → s.ms = 0 → ∃ t, u8run s (encs cs) = some t ∧ t.ms = 0 ∧ t.ps = s.ps ++ cs
  | [], s, _, h0 => ⟨s, rfl, h0, (List.append_nil _).symm⟩
  | c :: cs, s, hc, h0 => by
    obtain ⟨S, e0, hS, hm, hp, _⟩ := u8char (hc c (List.mem_cons_self ..)) s h0
    have e := u8run_app (enc1 c) (encs cs) S hS
    rw [e0] at e
    obtain ⟨t, h1, h2, h3⟩ := u8run_encs cs (S (enc1 c).length) (fun c h => hc c (List.mem_cons_of_mem _ h)) hm
    refine ⟨t, e.trans h1, h2, ?_⟩
    rw [h3, hp, List.append_assoc]
    rfl


local macro_rules | `(tactic| walk_at "ne") => `(tactic| first
  | assumption
  | (apply Ne.symm; assumption)
  | (refine ne_of_none ?_ ?_; rotate_left; assumption; walk_at "hl")
  | (apply Ne.symm; refine ne_of_none ?_ ?_; rotate_left; assumption; walk_at "hl"))
local macro_rules | `(tactic| walk_at "nm") => `(tactic| first
  | assumption
  | exact nm_nil
  | (refine nm_cons ?_ ?_; walk_at "ne"; walk_at "nm")
  | (refine nm_app ?_ ?_ <;> walk_at "nm"))
local macro_rules | `(tactic| walk_at "hl") => `(tactic| first
  | assumption
  | exact upd_same
  | (refine (upd_ne ?_).trans ?_; walk_at "ne"; walk_at "hl")
  | (refine Eb.get (by assumption) ?_ ?_; walk_at "ne"; walk_at "hl")
  | (refine Ch.get (by assumption) ?_ ?_; walk_at "nm"; walk_at "hl")
  | (refine Same.get (by assumption) ?_; walk_at "hl")
  | (refine Ch.tup (by assumption) ?_; walk_at "hl"))
local macro_rules | `(tactic| walk_at "ms") => `(tactic| first
  | assumption
  | exact ms_nil
  | (refine ms_cons ?_ ?_; (first | (left; simp; done) | (right; assumption)); walk_at "ms")
  | (refine ms_app ?_ ?_ <;> walk_at "ms"))
local macro_rules | `(tactic| walk_at "ch") => `(tactic| first
  | assumption
  | exact Ch.refl
  | (refine Ch.eb (by assumption) (by simp; done) ?_; walk_at "ch")
  | (refine Ch.ebn (by assumption) (by assumption) ?_; walk_at "ch")
  | (refine Ch.ch (by assumption) ?_ ?_; walk_at "ms"; walk_at "ch")
  | (refine Ch.same (by assumption) ?_; walk_at "ch"))
local macro_rules | `(tactic| walk_at "rh1") => `(tactic| first
  | (with_reducible refine r_seq ?_)
  | (with_reducible refine r_asg ?_)
  | (with_reducible refine r_name ?_)
  | ((with_reducible apply r_var); (· rfl))
  | (with_reducible refine r_c ?_)
  | (with_reducible refine r_op ?_)
  | (with_reducible refine r_I0 ?_)
  | (with_reducible refine r_eqI ?_)
  | (with_reducible refine r_neI ?_)
  | (with_reducible refine r_eqS ?_)
  | (with_reducible refine r_neS ?_)
  | (with_reducible refine r_cons ?_)
  | (with_reducible refine r_nil ?_)
  | (with_reducible refine r_test ?_)
  | (with_reducible refine r_B ?_)
  | (with_reducible refine r_bl ?_)
  | (with_reducible refine r_ret ?_)
  | (with_reducible refine r_drop ?_)
  | (with_reducible refine r_un ?_)
  | (with_reducible refine r_U ?_)
  | (with_reducible refine r_CB ?_)
  | (with_reducible refine r_call ?_)
  | (with_reducible refine r_retN ?_)
  | (with_reducible refine r_next ?_)
  | (with_reducible refine r_brk ?_)
  | (with_reducible refine r_and ?_)
  | (with_reducible refine r_or ?_)
  | (with_reducible refine r_not ?_)
  | (with_reducible refine r_andV ?_)
  | (with_reducible refine r_orV ?_)
  | (with_reducible refine r_notV ?_)
  | (with_reducible refine r_chain ?_)
  | (with_reducible refine r_iteF ?_)
  | (with_reducible refine r_iteT ?_)
  | (with_reducible refine r_iteNT ?_)
  | (with_reducible refine r_iteNF ?_)
  | ((with_reducible apply r_I); (· first | decide | exact ⟨by decide, by decide⟩ | exact .inr ⟨by decide, by decide⟩ | exact .inl ⟨by decide, by decide⟩ | exact ⟨by decide, by decide, by decide⟩))
  | (with_reducible refine r_bm ?_)
  | (with_reducible refine r_bm0 ?_)
  | (with_reducible refine r_sub ?_)
  | (with_reducible refine r_yes ?_)
  | (with_reducible refine r_fld ?_)
  | (with_reducible refine r_sfld ?_)
  | (with_reducible refine r_meth ?_)
  | (with_reducible refine r_prop ?_)
  | (with_reducible refine r_make ?_)
  | (with_reducible refine r_gcons ?_)
  | (with_reducible refine r_gnil ?_)
  | (with_reducible refine r_rfl ?_)
  | (with_reducible refine r_for ?_)
  | (with_reducible refine r_rng1 ?_)
  | (with_reducible refine r_int1 ?_)
  | (with_reducible refine r_abs ?_)
  | (with_reducible refine r_tup ?_)
  | (with_reducible refine r_lst ?_))
local macro_rules | `(tactic| walk_at "rh1") => `(tactic| first
  | (with_reducible refine r_sl ?_)
  | (with_reducible refine r_part ?_)
  | (with_reducible refine r_some ?_)
  | (with_reducible refine r_nopart ?_)
  | (with_reducible refine r_rng2 ?_)
  | (with_reducible refine r_rng3 ?_)
  | (with_reducible refine r_itL ?_)
  | (with_reducible refine r_itT ?_)
  | (with_reducible refine r_lcT ?_)
  | (with_reducible refine r_lcL ?_)
  | (with_reducible refine r_lc0 ?_))

local macro_rules | `(tactic| walk_at "fcl") => `(tactic| first | exact Nm.cl_Counted (by assumption) | exact Nm.cl_Numeral (by assumption) | exact Nm.cl_Utf8 (by assumption) | exact Nm.cl_BencodeNumber (by assumption) | exact Nm.cl_BencodeKey (by assumption) | exact Nm.cl_Nest (by assumption) | exact Nm.cl_BencodeScanner (by assumption) | exact Nm.cl_Frame (by assumption) | exact Nm.cl_Builder (by assumption))
local macro_rules | `(tactic| walk_at "fna") => `(tactic| first | exact Nm.na_Counted_is_done (by assumption) | exact Nm.na_Counted_can_end (by assumption) | exact Nm.na_Counted_has_begun (by assumption) | exact Nm.na_Counted_octets (by assumption) | exact Nm.na_Counted__missing (by assumption) | exact Nm.na_Numeral__sign (by assumption) | exact Nm.na_Numeral__worth (by assumption) | exact Nm.na_Numeral__scale (by assumption) | exact Nm.na_Numeral__exponent_sign (by assumption) | exact Nm.na_Numeral__exponent (by assumption) | exact Nm.na_Utf8_points (by assumption) | exact Nm.na_Utf8__missing (by assumption) | exact Nm.na_Utf8__worth (by assumption) | exact Nm.na_Utf8__least (by assumption) | exact Nm.na_Utf8__most (by assumption) | exact Nm.na_BencodeNumber_is_done (by assumption) | exact Nm.na_BencodeNumber__numeral (by assumption) | exact Nm.na_BencodeNumber__state (by assumption) | exact Nm.na_BencodeKey_is_done (by assumption) | exact Nm.na_BencodeKey__counted (by assumption) | exact Nm.na_BencodeKey__utf8 (by assumption) | exact Nm.na_Nest__levels (by assumption) | exact Nm.na_BencodeScanner__place (by assumption) | exact Nm.na_BencodeScanner__wanted (by assumption) | exact Nm.na_BencodeScanner__nest (by assumption) | exact Nm.na_BencodeScanner__token (by assumption) | exact Nm.na_Frame_kind (by assumption) | exact Nm.na_Frame_key (by assumption) | exact Nm.na_Frame_inside (by assumption) | exact Nm.na_Builder_is_done (by assumption) | exact Nm.na_Builder_value (by assumption) | exact Nm.na_Builder__frames (by assumption))
local macro_rules | `(tactic| walk_at "flk") => `(tactic| first | exact lk_Counted_is_done | exact lk_Counted_can_end | exact lk_Counted_has_begun | exact lk_Counted_octets | exact lk_Counted__missing | exact lk_Numeral__sign | exact lk_Numeral__worth | exact lk_Numeral__scale | exact lk_Numeral__exponent_sign | exact lk_Numeral__exponent | exact lk_Utf8_points | exact lk_Utf8__missing | exact lk_Utf8__worth | exact lk_Utf8__least | exact lk_Utf8__most | exact lk_BencodeNumber_is_done | exact lk_BencodeNumber__numeral | exact lk_BencodeNumber__state | exact lk_BencodeKey_is_done | exact lk_BencodeKey__counted | exact lk_BencodeKey__utf8 | exact lk_Nest__levels | exact lk_BencodeScanner__place | exact lk_BencodeScanner__wanted | exact lk_BencodeScanner__nest | exact lk_BencodeScanner__token | exact lk_Frame_kind | exact lk_Frame_key | exact lk_Frame_inside | exact lk_Builder_is_done | exact lk_Builder_value | exact lk_Builder__frames)
local macro_rules | `(tactic| walk_at "ffw") => `(tactic| first | exact few_Counted | exact few_Numeral | exact few_Utf8 | exact few_BencodeNumber | exact few_BencodeKey | exact few_Nest | exact few_BencodeScanner | exact few_Frame | exact few_Builder)
local macro_rules | `(tactic| walk_at "fpt") => `(tactic| first | exact pt_Counted_is_done | exact pt_Counted_can_end | exact pt_Counted_has_begun | exact pt_Counted_octets | exact pt_Counted__missing | exact pt_Numeral__sign | exact pt_Numeral__worth | exact pt_Numeral__scale | exact pt_Numeral__exponent_sign | exact pt_Numeral__exponent | exact pt_Utf8_points | exact pt_Utf8__missing | exact pt_Utf8__worth | exact pt_Utf8__least | exact pt_Utf8__most | exact pt_BencodeNumber_is_done | exact pt_BencodeNumber__numeral | exact pt_BencodeNumber__state | exact pt_BencodeKey_is_done | exact pt_BencodeKey__counted | exact pt_BencodeKey__utf8 | exact pt_Nest__levels | exact pt_BencodeScanner__place | exact pt_BencodeScanner__wanted | exact pt_BencodeScanner__nest | exact pt_BencodeScanner__token | exact pt_Frame_kind | exact pt_Frame_key | exact pt_Frame_inside | exact pt_Builder_is_done | exact pt_Builder_value | exact pt_Builder__frames)
local macro_rules | `(tactic| walk_at "fno") => `(tactic| first | exact no_Counted_take | exact no_Counted__take_in_count | exact no_Counted_leaf | exact no_Numeral_negate | exact no_Numeral_negate_exponent | exact no_Numeral_add_digit | exact no_Numeral_add_fraction_digit | exact no_Numeral_add_exponent_digit | exact no_Numeral_pair | exact no_Utf8_take | exact no_Utf8__begin | exact no_Utf8__go_on | exact no_BencodeNumber_take | exact no_BencodeNumber__take_minus | exact no_BencodeNumber__take_digit | exact no_BencodeNumber_leaf | exact no_BencodeKey_take | exact no_BencodeKey_leaf | exact no_Nest_inner | exact no_Nest_grow | exact no_Nest_shrink | exact no_Nest_note_key | exact no_BencodeScanner_step | exact no_BencodeScanner_end | exact no_BencodeScanner__take | exact no_BencodeScanner__end_token | exact no_BencodeScanner__end_value | exact no_BencodeScanner__take_mark | exact no_BencodeScanner__begin_counted | exact no_BencodeScanner__grow | exact no_BencodeScanner__close | exact no_Frame_put | exact no_Frame_built | exact no_Builder_take | exact no_Builder__put)
local macro_rules | `(tactic| walk_at "rf1") => `(tactic| first | (with_reducible refine r_lstE ?_) | (with_reducible refine r_tupE ?_) | (with_reducible refine r_dnwE ?_) | (with_reducible refine r_orT ?_) | (with_reducible refine r_din ?_) | (with_reducible refine r_dput ?_) | walk_at "rd1" | ((with_reducible apply r_fget); walk_at "hl"; walk_at "fcl"; walk_at "fna"; walk_at "flk") | ((with_reducible apply r_mget); walk_at "hl"; walk_at "fno") | ((with_reducible apply r_pget); walk_at "hl"))
local macro_rules | `(tactic| walk_at "rf") => `(tactic| repeat (walk_at "rf1"))
local macro_rules | `(tactic| walk_at "rg1") => `(tactic| first | (with_reducible refine r_lstE ?_) | (with_reducible refine r_tupE ?_) | (with_reducible refine r_dnwE ?_) | (with_reducible refine r_orT ?_) | (with_reducible refine r_din ?_) | (with_reducible refine r_dput ?_) | walk_at "ri1" | ((with_reducible apply r_fget); walk_at "hl"; walk_at "fcl"; walk_at "fna"; walk_at "flk") | ((with_reducible apply r_mget); walk_at "hl"; walk_at "fno") | ((with_reducible apply r_pget); walk_at "hl"))
local macro_rules | `(tactic| walk_at "rk1") => `(tactic| first | (with_reducible refine r_lstE ?_) | (with_reducible refine r_tupE ?_) | (with_reducible refine r_dnwE ?_) | (with_reducible refine r_orT ?_) | (with_reducible refine r_din ?_) | (with_reducible refine r_dput ?_) | walk_at "rh1" | ((with_reducible apply r_fget); walk_at "hl"; walk_at "fcl"; walk_at "fna"; walk_at "flk") | ((with_reducible apply r_mget); walk_at "hl"; walk_at "fno") | ((with_reducible apply r_pget); walk_at "hl"))
local macro_rules | `(tactic| walk_at "rk") => `(tactic| repeat (walk_at "rk1"))
local macro_rules | `(tactic| walk_at "rg") => `(tactic| repeat (walk_at "rg1"))
local macro_rules | `(tactic| walk_at "fs") => `(tactic| (apply r_fsetE; walk_at "hl"; walk_at "fcl"; walk_at "fna"; walk_at "ffw"; walk_at "fpt"))

/-! ### a counted row of octets -/





def isDg (o : Int) : Bool := decide (48 ≤ o) && decide (o ≤ 57)
def optV : Option Int → V
  | some i => .int i
  | none => .non
theorem optV_some (i : Int) : optV (some i) = .int i := rfl
theorem optV_none : optV none = .non := rfl
def sp_is_digit : Sp := sp1 fun a H Q _ => ∃ o : Int, a = .int o ∧ Q (.bl (isDg o)) H
structure Ct where
  d : Bool
  b : Bool
  os : List Int
  m : Option Int
def CtAt (K : Frg) (H : Hp) (a l : Addr) (s : Ct) : Prop := ∃ dx, H a = some (.ins (C_Counted K) dx (fs_Counted (.bl s.d) (.bl false) (.bl s.b) (.ref l) (optV s.m))) ∧ H l = some (.lst (s.os.map V.int)) ∧ a ≠ l
def ct0 : Ct := ⟨false, false, [], none⟩
def ctCount (s : Ct) (o : Int) : Bool × Ct :=
  if o = 58 ∧ s.m ≠ none then (true, { s with b := true, d := decide (s.m.getD 0 = 0) }) else if isDg o = false ∨ s.m = some 0 then (false, s) else (true, { s with m := some ((s.m.getD 0) * 10 + o - 48) })
def ctTake (s : Ct) (o : Int) : Bool × Ct :=
  if s.b = true then (true, { s with os := s.os ++ [o], m := some (s.m.getD 0 - 1), d := decide (s.m.getD 0 - 1 = 0) }) else ctCount s o
def CtOk (s : Ct) : Prop := s.b = true → ∃ k, s.m = some k
theorem CtAt.get {K : Frg} {H H' : Hp} {a l : Addr} {s : Ct} {o : List Addr} (h : CtAt K H a l s) (c : Ch o H H') (na : a ∉ o) (nl : l ∉ o) : CtAt K H' a l s := by
  obtain ⟨dx, h1, h2, h3⟩ := h
  exact ⟨dx, c.get na h1, c.get nl h2, h3⟩
def sp_Counted___init__ (K : Frg) : Sp := sp1 fun p H Q _ => ∃ a dx, p = .ref a ∧ H a = some (.ins (C_Counted K) dx []) ∧ ∀ l H', H l = none → CtAt K H' a l ct0 → Ch [a] H H' → Q .non H'
def sp_Counted__take_in_count (K : Frg) : Sp := sp2 fun p o H Q _ => ∃ a l s b, p = .ref a ∧ o = .int b ∧ CtAt K H a l s ∧ ∀ H', CtAt K H' a l (ctCount s b).2 → Ch [a, l] H H' → Q (.bl (ctCount s b).1) H'
def sp_Counted_take (K : Frg) : Sp := sp2 fun p o H Q _ => ∃ a l s b, p = .ref a ∧ o = .int b ∧ CtAt K H a l s ∧ CtOk s ∧ s.os.length < sizeLine ∧ ∀ H', CtAt K H' a l (ctTake s b).2 → Ch [a, l] H H' → Q (.bl (ctTake s b).1) H'
def sp_Counted_leaf (K : Frg) : Sp := sp1 fun p H Q _ => ∃ a l s, p = .ref a ∧ CtAt K H a l s ∧ ∀ p H', Tp H' p (.tuple [.str "bytes", kd s.os]) → Same H H' → Q p H'
section
variable {P : Program} {w : World} {K : PySem.W.Frag} {mg : Str → Option Value} {base : Heap} {f : Addr} {fd : FuncData}
theorem ok_is_digit (F : FunD K "is_digit" "is_digit" (defArgs s_is_digit) (defBody s_is_digit) (defScope s_is_digit) [] [] (glAd "is_digit" K) fd) (m : mg "is_digit" = some (.ref (glAd "is_digit" K))) (nb : Nm K mg) : Cal P w K mg base 1 "is_digit" sp_is_digit [] := by
  refine calD F m sc_is_digit (fun _ _ _ _ _ _ us hl => match us, hl with | [_], _ => rfl) len1 (fun cdv A outer s H vs Q E hr h => ⟨_, (pss_one (ps_ret (pe_chain op_le op_le (pe_gc rfl nb.g_ZERO_counted) (pv 0) (pe_gc rfl nb.g_NINE)))), ?_⟩)
  obtain ⟨_, rfl, o, rfl, h⟩ := h
  walk_at "rd"
  unfold isDg at h
  refine r_ite (fun c => ?_) (fun c => ?_)
  · walk_at "rd"
    rw [decide_eq_true c] at h
    exact h
  · rw [decide_eq_false c] at h
    exact h
theorem ok_Counted___init__ (F : FunD K "__init__" "Counted.__init__" (defArgs s_Counted___init__) (defBody s_Counted___init__) (defScope s_Counted___init__) [] [] (meAd "Counted" "__init__" K) fd) (nb : Nm K mg) : Mak P w K mg base 1 "Counted" (C_Counted K) (sp_Counted___init__ K) [] := by
  refine makD F nb.mk_Counted nb.g_Counted sc_Counted___init__ (fun _ _ _ _ _ _ us hl => match us, hl with | [_], _ => rfl) len1 (fun cdv A outer s H vs Q E hr h => ⟨_, (pss_cons (ps_fld (pv 0) pe_bl rfl)
    (pss_cons (ps_fld (pv 0) pe_bl rfl)
    (pss_cons (ps_fld (pv 0) pe_bl rfl)
    (pss_cons (ps_fld (pv 0) (pe_lstE pa_nil) rfl)
    (pss_one (ps_fld (pv 0) pe_non rfl)))))), ?_⟩)
  obtain ⟨_, rfl, a, dx, rfl, hA, h⟩ := h
  walk_at "rf"
  refine r_fsetE hA nb.cl_Counted nb.na_Counted_is_done (by decide) (in_Counted_is_done) fun H1 hA1 f1 => ?_
  walk_at "rf"
  refine r_fsetE hA1 nb.cl_Counted nb.na_Counted_can_end (by simp) (in_Counted_can_end) fun H2 hA2 f2 => ?_
  walk_at "rf"
  refine r_fsetE hA2 nb.cl_Counted nb.na_Counted_has_begun (by simp) (in_Counted_has_begun) fun H3 hA3 f3 => ?_
  walk_at "rf"
  refine ⟨by show 0 ≤ sizeLine; decide, fun l H4 nl hL4 s4 => ?_⟩
  have hne : a ≠ l := Same.ne nl hA3
  have c3 : Ch [a] H H3 := by walk_at "ch"
  walk_at "rf"
  refine r_fsetE (s4 _ _ hA3) nb.cl_Counted nb.na_Counted_octets (by simp) (in_Counted_octets) fun H5 hA5 f5 => ?_
  walk_at "rf"
  refine r_fsetE hA5 nb.cl_Counted nb.na_Counted__missing (by simp) (in_Counted__missing) fun H6 hA6 f6 => ?_
  exact h l H6 ((c3.fresh nl).resolve_left (by simp [Ne.symm hne])) ⟨dx, hA6, by walk_at "hl", hne⟩ (by walk_at "ch")
theorem ok_Counted__take_in_count (F : FunD K "_take_in_count" "Counted._take_in_count" (defArgs s_Counted__take_in_count) (defBody s_Counted__take_in_count) (defScope s_Counted__take_in_count) [] [] (meAd "Counted" "_take_in_count" K) fd) (nb : Nm K mg) (c_is_digit : Cal P w K mg base 1 "is_digit" sp_is_digit []) : Met P w K mg base 2 (C_Counted K) "_take_in_count" (sp_Counted__take_in_count K) [] := by
  refine metD F nb.cl_Counted nb.me_Counted__take_in_count sc_Counted__take_in_count (fun _ _ _ _ _ _ us hl => match us, hl with | [_, _], _ => rfl) len2 (fun cdv A outer s H vs Q E hr h => ⟨_, (pss_cons (ps_if (PW.pt (pw_and (pt_cmpR op_eq (pv 1) (pe_gc rfl nb.g_COLON) (nomark _)) (pw_and1 (pt_cmpR op_notN (pe_fld (pv 0) rfl) pe_non (nomark _)))))
    (pss_cons (ps_fld (pv 0) pe_bl rfl)
    (pss_cons (ps_fld (pv 0) (pe_cmpR op_eq (pe_fld (pv 0) rfl) pe_int (nomark _)) rfl)
    (pss_one (ps_ret pe_bl))))
    pss_nil)
    (pss_cons (ps_if (PW.pt (pw_or (pt_not (pt_val (pe_c c_is_digit hr (by decide) rfl (pa_cons (pv 1) pa_nil)))) (pw_or1 (pt_cmpR op_eq (pe_fld (pv 0) rfl) pe_int (nomark _)))))
    (pss_one (ps_ret pe_bl))
    pss_nil)
    (pss_cons (ps_fld (pv 0) (pe_op op_sub (pe_op op_add (pe_op op_mul (pe_orT (pe_fld (pv 0) rfl) (pe_one pe_int)) pe_int) (pv 1)) (pe_gc rfl nb.g_ZERO_counted)) rfl)
    (pss_one (ps_ret pe_bl))))), ?_⟩)
  obtain ⟨_, _, rfl, a, l, s, b, rfl, rfl, ⟨dx, hA, hL, ne⟩, h⟩ := h
  have hdig : ∀ R : VK, R (.bl (isDg b)) H → sp_is_digit ([.int b] ++ []) H R C8.E0 := fun R q => ⟨_, rfl, b, rfl, q⟩
  have first : ∀ R : Bool → Hp → Prop, R (decide (b = 58 ∧ s.m ≠ none)) H → (tAnd (tTest (tOp rEq (tVar 1) (tC (.int 58)))) (tTest (tOp (fun x y H Q => y = .non ∧ Q (.bl (!decide (x = .non))) H) (tFld K (tVar 0) "_missing") (tC V.non)))) (L2.start ["self", "octet"] [V.ref a, V.int b]) H R := by
    intro R q
    walk_at "rf"
    refine r_ite (fun c => ?_) (fun c => ?_)
    · walk_at "rf"
      have e : decide (b = 58 ∧ s.m ≠ none) = !decide (optV s.m = .non) := by
        cases s.m <;> simp [optV, c]
      rw [e] at q
      exact q
    · rw [decide_eq_false (fun z => c z.1)] at q
      exact q
  walk_at "rg"
  refine r_ifB (decide (b = 58 ∧ s.m ≠ none)) (fun R hR => first R hR) ?_
  refine r_ite (fun c => ?_) (fun c => ?_)
  · obtain ⟨k, hk⟩ := Option.ne_none_iff_exists'.mp c.2
    have e : ctCount s b = (true, { s with b := true, d := decide (k = 0) }) := by simp [ctCount, c.1, hk]
    rw [e] at h
    rw [hk, optV_some] at hA
    walk_at "rf"
    walk_at "fs"
    intro H1 hA1 f1
    walk_at "rf"
    walk_at "fs"
    intro H2 hA2 f2
    walk_at "rf"
    exact h H2 ⟨dx, by rw [hk]; exact hA2, by walk_at "hl", ne⟩ (by walk_at "ch")
  have second : ∀ R : Bool → Hp → Prop, R (decide (isDg b = false ∨ s.m = some 0)) H → (tOr (tNot (tB (tCall sp_is_digit [] C8.E0 (tCons (tVar 1) tNil)))) (tTest (tOp rEq (tFld K (tVar 0) "_missing") (tC (.int 0))))) (L2.start ["self", "octet"] [V.ref a, V.int b]) H R := by
    intro R q
    walk_at "rf"
    refine ⟨_, rfl, b, rfl, _, rfl, ?_⟩
    cases hd : isDg b with
    | false =>
      rw [decide_eq_true (.inl hd)] at q
      walk_at "rf"
      exact q
    | true =>
      walk_at "rf"
      have e : decide (isDg b = false ∨ s.m = some 0) = decide (optV s.m = .int 0) := by
        rw [hd]
        cases s.m <;> simp [optV]
      rw [e] at q
      refine ⟨by cases s.m <;> rfl, ?_⟩
      walk_at "rf"
      exact q
  walk_at "rg"
  refine r_ifB (decide (isDg b = false ∨ s.m = some 0)) (fun R hR => second R hR) ?_
  refine r_ite (fun c2 => ?_) (fun c2 => ?_)
  · have e : ctCount s b = (false, s) := by
      unfold ctCount
      rw [if_neg c, if_pos c2]
    rw [e] at h
    walk_at "rf"
    exact h H ⟨dx, hA, hL, ne⟩ Ch.refl
  have e : ctCount s b = (true, { s with m := some ((s.m.getD 0) * 10 + b - 48) }) := by
    unfold ctCount
    rw [if_neg c, if_neg c2]
  rw [e] at h
  walk_at "rf"
  have go : ∀ k : Int, s.m.getD 0 = k → rI0 (fun x y => .int (x + y)) (.int (k * 10)) (.int b) H fun x H1 => True := fun k _ => ⟨_, _, rfl, rfl, trivial⟩
  cases hm : s.m with
  | none =>
    refine ⟨false, rfl, ?_⟩
    walk_at "rf"
    walk_at "fs"
    intro H1 hA1 f1
    walk_at "rf"
    rw [hm] at h
    exact h H1 ⟨dx, hA1, by walk_at "hl", ne⟩ (by walk_at "ch")
  | some k =>
    have hk0 : k ≠ 0 := fun z => c2 (.inr (by rw [hm, z]))
    refine ⟨true, by show true = (k != 0); simp [hk0], ?_⟩
    rw [optV_some]
    walk_at "rf"
    walk_at "fs"
    intro H1 hA1 f1
    walk_at "rf"
    rw [hm] at h
    exact h H1 ⟨dx, hA1, by walk_at "hl", ne⟩ (by walk_at "ch")
theorem ok_Counted_take (F : FunD K "take" "Counted.take" (defArgs s_Counted_take) (defBody s_Counted_take) (defScope s_Counted_take) [] [] (meAd "Counted" "take" K) fd) (nb : Nm K mg) (m_Counted__take_in_count : Met P w K mg base 2 (C_Counted K) "_take_in_count" (sp_Counted__take_in_count K) []) : Met P w K mg base 3 (C_Counted K) "take" (sp_Counted_take K) [] := by
  refine metD F nb.cl_Counted nb.me_Counted_take sc_Counted_take (fun _ _ _ _ _ _ us hl => match us, hl with | [_, _], _ => rfl) len2 (fun cdv A outer s H vs Q E hr h => ⟨_, (pss_cons (ps_if (pt_not (pt_val (pe_fld (pv 0) rfl)))
    (pss_one (ps_ret (pe_mt m_Counted__take_in_count hr (by decide) (pv 0) (pa_cons (pv 1) pa_nil))))
    pss_nil)
    (pss_cons (ps_expr (pe_bm PySem.F.plainAttrs_list PySem.F.slot_list_append PySem.F.type_list_append mt_append (pe_fld (pv 0) rfl) (pa_cons (pv 1) pa_nil)))
    (pss_cons (ps_fld (pv 0) (pe_op op_sub (pe_fld (pv 0) rfl) pe_int) rfl)
    (pss_cons (ps_fld (pv 0) (pe_cmpR op_eq (pe_fld (pv 0) rfl) pe_int (nomark _)) rfl)
    (pss_one (ps_ret pe_bl)))))), ?_⟩)
  obtain ⟨_, _, rfl, a, l, s, b, rfl, rfl, hC, hok, hlen, h⟩ := h
  obtain ⟨dx, hA, hL, ne⟩ := id hC
  walk_at "rf"
  unfold ctTake at h
  cases hb : s.b with
  | false =>
    rw [hb, if_neg Bool.false_ne_true] at h
    walk_at "rf"
    exact ⟨_, _, rfl, a, l, s, b, rfl, rfl, hC, h⟩
  | true =>
    obtain ⟨k, hk⟩ := hok hb
    rw [hb, if_pos rfl, hk] at h
    rw [hk, hb, optV_some] at hA
    walk_at "rf"
    refine ⟨tyL hL, ?_⟩
    walk_at "rf"
    refine r_appE hL (by rw [List.length_map]; exact hlen) fun H1 hL1 f1 => ?_
    have hA1 := f1.get ne hA
    walk_at "rf"
    walk_at "fs"
    intro H2 hA2 f2
    walk_at "rf"
    walk_at "fs"
    intro H3 hA3 f3
    walk_at "rf"
    exact h H3 ⟨dx, hA3, by rw [← map_snoc]; walk_at "hl", ne⟩ (by walk_at "ch")
theorem ok_Counted_leaf (F : FunD K "leaf" "Counted.leaf" (defArgs s_Counted_leaf) (defBody s_Counted_leaf) (defScope s_Counted_leaf) [] [] (meAd "Counted" "leaf" K) fd) (nb : Nm K mg) : Met P w K mg base 1 (C_Counted K) "leaf" (sp_Counted_leaf K) [] := by
  refine metD F nb.cl_Counted nb.me_Counted_leaf sc_Counted_leaf (fun _ _ _ _ _ _ us hl => match us, hl with | [_], _ => rfl) len1 (fun cdv A outer s H vs Q E hr h => ⟨_, (pss_one (ps_ret (pe_tupE (pa_cons pe_str (pa_cons (pe_callTy call_tuple_ofE (by rfl) nb.tuple (by decide +kernel) (pa_cons (pe_fld (pv 0) rfl) pa_nil)) pa_nil))))), ?_⟩)
  obtain ⟨_, rfl, a, l, s, rfl, ⟨dx, hA, hL, ne⟩, h⟩ := h
  walk_at "rf"
  refine r_toT (SqL.of hL) fun t H1 nt g1 s1 => ?_
  walk_at "rf"
  refine ⟨by show 2 ≤ sizeLine; decide, fun q H2 nq g2 s2 => ?_⟩
  exact h (.ref q) H2 (.tup g2 (.cons (.str _) (.cons (tp_kd (s2 _ _ g1)) .nil))) (s1.trans s2)
end

/-! ### the levels around a place -/





structure Lv where
  m : Bool
  ks : List (List Int)
def kindV : List Lv → V
  | [] => .non
  | l :: _ => .str (kindOf_ l.m)
def ikey (k : List Int) : List Key := k.map Sum.inl
def ktab (ks : List (List Int)) : List (List Key × V) := ks.map fun k => (ikey k, V.bl true)
def LvAt (H : Hp) : List (Addr × Addr) → List Lv → Prop
  | [], [] => True
  | d :: ds, l :: lv => H d.1 = some (.tup [.str (kindOf_ l.m), .ref d.2]) ∧ H d.2 = some (.dT (ktab l.ks)) ∧ LvAt H ds lv
  | _, _ => False
def nsOwn (n ll : Addr) (ds : List (Addr × Addr)) : List Addr := n :: ll :: ds.map (·.2)
def NsAt (K : Frg) (H : Hp) (n ll : Addr) (ds : List (Addr × Addr)) (lv : List Lv) : Prop := (∃ dx, H n = some (.ins (C_Nest K) dx (fs_Nest (.ref ll)))) ∧ H ll = some (.lst (ds.reverse.map fun d => V.ref d.1)) ∧ LvAt H ds lv ∧ (nsOwn n ll ds).Nodup
theorem LvAt.len {H : Hp} : ∀ {ds : List (Addr × Addr)} {lv : List Lv}, LvAt H ds lv → ds.length = lv.length
  | [], [], _ => rfl
  | _ :: _, _ :: _, h => congrArg (· + 1) (LvAt.len h.2.2)
  | [], _ :: _, h => h.elim
  | _ :: _, [], h => h.elim
theorem LvAt.get {H H' : Hp} {o : List Addr} (c : Ch o H H') : ∀ {ds : List (Addr × Addr)} {lv : List Lv}, LvAt H ds lv → (∀ x ∈ ds.map (·.2), x ∉ o) → LvAt H' ds lv
  | [], [], _, _ => trivial
  | d :: ds, l :: lv, h, n => ⟨c.tup h.1, c.get (n _ (List.mem_cons_self ..)) h.2.1, LvAt.get c h.2.2 fun x hx => n x (List.mem_cons_of_mem _ hx)⟩
  | [], _ :: _, h, _ => h.elim
  | _ :: _, [], h, _ => h.elim
theorem NsAt.get {K : Frg} {H H' : Hp} {n ll : Addr} {ds : List (Addr × Addr)} {lv : List Lv} {o : List Addr} (h : NsAt K H n ll ds lv) (c : Ch o H H') (d : ∀ x ∈ nsOwn n ll ds, x ∉ o) : NsAt K H' n ll ds lv := by
  obtain ⟨⟨dx, h1⟩, h2, h3, h4⟩ := h
  exact ⟨⟨dx, c.get (d _ (by simp [nsOwn])) h1⟩, c.get (d _ (by simp [nsOwn])) h2, h3.get c fun x hx => d x (List.mem_cons_of_mem _ (List.mem_cons_of_mem _ hx)), h4⟩
theorem kv_ikey (k : List Int) : (ikey k).map kV = k.map V.int := by
  unfold ikey
  rw [List.map_map]
  rfl
theorem ikey_inj : ∀ {a b : List Int}, ikey a = ikey b → a = b
  | [], [], _ => rfl
  | [], _ :: _, h => by cases h
  | _ :: _, [], h => by cases h
  | x :: a, y :: b, h => by
    injection h with h1 h2
    rw [Sum.inl.inj h1, ikey_inj h2]
theorem ktab_get (k : List Int) : ∀ ks : List (List Int), (valV (ktab ks) (ikey k)).isSome = decide (k ∈ ks)
  | [] => rfl
  | x :: ks => by
    show (valV ((ikey x, V.bl true) :: ktab ks) (ikey k)).isSome = _
    by_cases c : x = k
    · subst c
      rw [valV_pos rfl]
      simp
    · rw [valV_neg (fun q => c (ikey_inj q)), ktab_get k ks]
      simp [Ne.symm c]
theorem ktab_put {k : List Int} {ks : List (List Int)} (h : k ∉ ks) : putK (ktab ks) (ikey k) (.bl true) = ktab (ks ++ [k]) := by
  unfold putK
  rw [valV_any, ktab_get, decide_eq_false h]
  unfold ktab
  rw [List.map_append]
  rfl
theorem at_last {xs : List V} {y : V} : atI (xs ++ [y]) (-1) = some y := by
  unfold atI ixN
  rw [if_neg (by decide), List.length_append]
  show ((if -((xs.length + 1 : Nat) : Int) ≤ -1 then some ((-1 : Int) + ((xs.length + 1 : Nat) : Int)).toNat else none).bind fun j => (xs ++ [y])[j]?) = _
  rw [if_pos (by omega), show ((-1 : Int) + ((xs.length + 1 : Nat) : Int)).toNat = xs.length by omega]
  simp
theorem rev_map_snoc (d : Addr × Addr) (ds : List (Addr × Addr)) : ((d :: ds).reverse.map fun d => V.ref d.1) = (ds.reverse.map fun d => V.ref d.1) ++ [V.ref d.1] := by
  rw [List.reverse_cons, List.map_append]
  rfl
def sp_Nest___init__ (K : Frg) : Sp := sp1 fun p H Q _ => ∃ a dx, p = .ref a ∧ H a = some (.ins (C_Nest K) dx []) ∧ ∀ l H', H l = none → NsAt K H' a l [] [] → Ch [a] H H' → Q .non H'
def sp_Nest_inner (K : Frg) : Sp := sp1 fun p H Q _ => ∃ n ll ds lv, p = .ref n ∧ NsAt K H n ll ds lv ∧ lv.length ≤ 1000 ∧ Q (kindV lv) H
def sp_Nest_grow (K : Frg) : Sp := sp2 fun p o H Q _ => ∃ n ll ds lv m, p = .ref n ∧ o = .str (kindOf_ m) ∧ NsAt K H n ll ds lv ∧ lv.length ≤ 24 ∧
  (lv.length = 24 → Q (.bl false) H) ∧ (lv.length ≠ 24 → ∀ d H', H d.1 = none → H d.2 = none → NsAt K H' n ll (d :: ds) (⟨m, []⟩ :: lv) → Ch (nsOwn n ll ds) H H' → Q (.bl true) H')
def sp_Nest_shrink (K : Frg) : Sp := sp1 fun p H Q _ => ∃ n ll d ds l lv, p = .ref n ∧ NsAt K H n ll (d :: ds) (l :: lv) ∧ ∀ H', NsAt K H' n ll ds lv → Ch (nsOwn n ll (d :: ds)) H H' → Q .non H'
def sp_Nest_note_key (K : Frg) : Sp := sp2 fun p o H Q _ => ∃ n ll d ds l lv b k, p = .ref n ∧ o = .ref b ∧ H b = some (.tup (k.map V.int)) ∧ NsAt K H n ll (d :: ds) (l :: lv) ∧ l.ks.length < sizeLine ∧
  (k ∈ l.ks → Q (.bl false) H) ∧ (k ∉ l.ks → ∀ H', NsAt K H' n ll (d :: ds) (⟨l.m, l.ks ++ [k]⟩ :: lv) → Ch (nsOwn n ll (d :: ds)) H H' → Q (.bl true) H')
section
variable {P : Program} {w : World} {K : PySem.W.Frag} {mg : Str → Option Value} {base : Heap} {f : Addr} {fd : FuncData}
theorem ok_Nest___init__ (F : FunD K "__init__" "Nest.__init__" (defArgs s_Nest___init__) (defBody s_Nest___init__) (defScope s_Nest___init__) [] [] (meAd "Nest" "__init__" K) fd) (nb : Nm K mg) : Mak P w K mg base 1 "Nest" (C_Nest K) (sp_Nest___init__ K) [] := by
  refine makD F nb.mk_Nest nb.g_Nest sc_Nest___init__ (fun _ _ _ _ _ _ us hl => match us, hl with | [_], _ => rfl) len1 (fun cdv A outer s H vs Q E hr h => ⟨_, (pss_one (ps_fld (pv 0) (pe_lstE pa_nil) rfl)), ?_⟩)
  obtain ⟨_, rfl, a, dx, rfl, hA, h⟩ := h
  walk_at "rf"
  refine ⟨by show 0 ≤ sizeLine; decide, fun l H1 nl hL s1 => ?_⟩
  have hne : a ≠ l := Same.ne nl hA
  walk_at "rf"
  refine r_fsetE (s1 _ _ hA) nb.cl_Nest nb.na_Nest__levels (by decide) (in_Nest__levels) fun H2 hA2 f2 => ?_
  exact h l H2 nl ⟨⟨dx, hA2⟩, by walk_at "hl", trivial, by simp [nsOwn, hne]⟩ (by walk_at "ch")
theorem ok_Nest_inner (F : FunD K "inner" "Nest.inner" (defArgs s_Nest_inner) (defBody s_Nest_inner) (defScope s_Nest_inner) [] [] (meAd "Nest" "inner" K) fd) (nb : Nm K mg) : Met P w K mg base 1 (C_Nest K) "inner" (sp_Nest_inner K) [] := by
  refine metD F nb.cl_Nest nb.me_Nest_inner sc_Nest_inner (fun _ _ _ _ _ _ us hl => match us, hl with | [_], _ => rfl) len1 (fun cdv A outer s H vs Q E hr h => ⟨_, (pss_cons (ps_if (pt_not (pt_truth (pe_fld (pv 0) rfl) (by intro _; rfl)))
    (pss_one (ps_ret pe_non))
    pss_nil)
    (pss_one (ps_ret (pe_ix ix_tup (pe_ix ix_list (pe_fld (pv 0) rfl) (pe_un un_neg pe_int) (fun _ _ => rfl)) pe_int (fun _ _ => rfl))))), ?_⟩)
  obtain ⟨_, rfl, n, ll, ds, lv, rfl, ⟨⟨dx, hA⟩, hL, hV, hN⟩, hl, h⟩ := h
  walk_at "rf"
  cases lv with
  | nil =>
    cases ds with
    | cons d ds => exact hV.elim
    | nil =>
      refine ⟨false, .inl ⟨_, SqL.of hL, rfl⟩, ?_⟩
      walk_at "rf"
      exact h
  | cons l lv =>
    cases ds with
    | nil => exact hV.elim
    | cons d ds =>
      rw [rev_map_snoc] at hL
      refine ⟨true, .inl ⟨_, SqL.of hL, ?_⟩, ?_⟩
      · simp
      walk_at "rf"
      refine r_ixL (SqL.of hL) at_last ?_
      walk_at "rf"
      exact r_ixT (SqT.of hV.1) rfl h
theorem ok_Nest_grow (F : FunD K "grow" "Nest.grow" (defArgs s_Nest_grow) (defBody s_Nest_grow) (defScope s_Nest_grow) [] [] (meAd "Nest" "grow" K) fd) (nb : Nm K mg) : Met P w K mg base 1 (C_Nest K) "grow" (sp_Nest_grow K) [] := by
  refine metD F nb.cl_Nest nb.me_Nest_grow sc_Nest_grow (fun _ _ _ _ _ _ us hl => match us, hl with | [_, _], _ => rfl) len2 (fun cdv A outer s H vs Q E hr h => ⟨_, (pss_cons (ps_if (pt_cmpR op_eq (pe_callB call_len_seq (by rfl) nb.len PySem.boot_len (pa_cons (pe_fld (pv 0) rfl) pa_nil)) (pe_gc rfl nb.g_DEEPEST) (nomark _))
    (pss_one (ps_ret pe_bl))
    pss_nil)
    (pss_cons (ps_expr (pe_bm PySem.F.plainAttrs_list PySem.F.slot_list_append PySem.F.type_list_append mt_append (pe_fld (pv 0) rfl) (pa_cons (pe_tupE (pa_cons (pv 1) (pa_cons pe_dnwE pa_nil))) pa_nil)))
    (pss_one (ps_ret pe_bl)))), ?_⟩)
  obtain ⟨_, _, rfl, n, ll, ds, lv, m, rfl, rfl, ⟨⟨dx, hA⟩, hL, hV, hN⟩, hl, h1, h2⟩ := h
  have el : (ds.reverse.map fun d => V.ref d.1).length = lv.length := by rw [List.length_map, List.length_reverse, hV.len]
  walk_at "rf"
  refine ⟨ll, _, rfl, .inl (SqL.of hL), ?_⟩
  rw [el]
  walk_at "rf"
  refine r_ite (fun c => ?_) (fun c => ?_)
  · walk_at "rf"
    exact h1 (by omega)
  walk_at "rf"
  refine ⟨tyL hL, ?_⟩
  walk_at "rf"
  intro e H1 ne hE s1
  walk_at "rf"
  refine ⟨by show 2 ≤ sizeLine; decide, fun t H2 nt hT s2 => ?_⟩
  walk_at "rf"
  refine r_appE (s2 _ _ (s1 _ _ hL)) (by rw [el]; exact small1000 (by omega)) fun H3 hL3 f3 => ?_
  have et : e ≠ t := Same.ne nt hE
  have lt : ll ≠ t := Same.ne nt (s1 _ _ hL)
  have le : ll ≠ e := Same.ne ne hL
  have nt0 : H t = none := s1.free nt
  have c3 : Ch (nsOwn n ll ds) H H3 := by
    refine Ch.eb f3 (by simp [nsOwn]) ?_
    walk_at "ch"
  have hN0 := hN
  unfold nsOwn at hN
  rw [List.nodup_cons] at hN
  have nl : n ≠ ll := fun q => hN.1 (by simp [q])
  have s3 : ∀ x u, x ≠ ll → H x = some u → H3 x = some u := fun x u n z => f3.get n (s2 _ _ (s1 _ _ z))
  walk_at "rf"
  refine h2 (by omega) (t, e) H3 nt0 ne ⟨⟨dx, by walk_at "hl"⟩, by rw [rev_map_snoc]; exact hL3, ⟨by walk_at "hl", by walk_at "hl", ?_⟩, ?_⟩ c3
  · refine hV.get (o := [ll]) (fun x u z m => ?_) fun x hx q => ?_
    · by_cases q : x = ll
      · obtain ⟨xs, rfl⟩ := m (by simp [q])
        rw [q, hL] at z
        cases z
      · exact s3 x u q z
    · have e : x = ll := by simpa using q
      have := List.nodup_cons.mp hN.2
      exact this.1 (by rw [← e]; exact hx)
  · have hd : ∀ x ∈ ds.map (·.2), x ≠ e := by
      intro x hx q
      have : ∀ {ds : List (Addr × Addr)} {lv : List Lv}, LvAt H ds lv → ∀ x ∈ ds.map (·.2), ∃ u, H x = some u := by
        intro ds
        induction ds with
        | nil => intro lv _ x hx; simp at hx
        | cons d ds ih =>
          intro lv h x hx
          cases lv with
          | nil => exact h.elim
          | cons l lv =>
            rcases List.mem_cons.mp hx with q | q
            · exact ⟨_, by rw [q]; exact h.2.1⟩
            · exact ih h.2.2 x q
      obtain ⟨u, hu⟩ := this hV x hx
      rw [q, ne] at hu
      cases hu
    have hn2 := List.nodup_cons.mp hN.2
    show (n :: ll :: e :: ds.map (·.2)).Nodup
    have nn : n ≠ e := Same.ne ne hA
    refine List.nodup_cons.mpr ⟨fun q => ?_, List.nodup_cons.mpr ⟨fun q => ?_, List.nodup_cons.mpr ⟨fun q => hd e q rfl, hn2.2⟩⟩⟩
    · rcases List.mem_cons.mp q with q | q
      · exact nl q
      · rcases List.mem_cons.mp q with q | q
        · exact nn q
        · exact hN.1 (List.mem_cons_of_mem _ q)
    · rcases List.mem_cons.mp q with q | q
      · exact le q
      · exact hn2.1 q
theorem ok_Nest_shrink (F : FunD K "shrink" "Nest.shrink" (defArgs s_Nest_shrink) (defBody s_Nest_shrink) (defScope s_Nest_shrink) [] [] (meAd "Nest" "shrink" K) fd) (nb : Nm K mg) : Met P w K mg base 1 (C_Nest K) "shrink" (sp_Nest_shrink K) [] := by
  refine metD F nb.cl_Nest nb.me_Nest_shrink sc_Nest_shrink (fun _ _ _ _ _ _ us hl => match us, hl with | [_], _ => rfl) len1 (fun cdv A outer s H vs Q E hr h => ⟨_, (pss_one (ps_expr (pe_bm0 PySem.F.plainAttrs_list PySem.F.slot_list_pop PySem.F.type_list_pop mt_pop (pe_fld (pv 0) rfl)))), ?_⟩)
  obtain ⟨_, rfl, n, ll, d, ds, l, lv, rfl, ⟨⟨dx, hA⟩, hL, hV, hN⟩, h⟩ := h
  rw [rev_map_snoc] at hL
  walk_at "rf"
  refine ⟨tyL hL, ?_⟩
  walk_at "rf"
  refine r_popE hL fun H1 hL1 f1 => ?_
  have hN' : (nsOwn n ll ds).Nodup := by
    refine hN.sublist ?_
    exact List.Sublist.cons₂ _ (List.Sublist.cons₂ _ (List.sublist_cons_self ..))
  have nl : n ≠ ll := fun q => (List.nodup_cons.mp hN).1 (by simp [q])
  walk_at "rf"
  refine h H1 ⟨⟨dx, by walk_at "hl"⟩, hL1, hV.2.2.get (o := [ll]) (Ch.eb f1 (by simp) Ch.refl) fun x hx q => ?_, hN'⟩ (Ch.eb f1 (by simp [nsOwn]) Ch.refl)
  have e : x = ll := by simpa using q
  have := (List.nodup_cons.mp (List.nodup_cons.mp hN').2).1
  exact this (by rw [← e]; exact hx)
theorem ok_Nest_note_key (F : FunD K "note_key" "Nest.note_key" (defArgs s_Nest_note_key) (defBody s_Nest_note_key) (defScope s_Nest_note_key) [] [] (meAd "Nest" "note_key" K) fd) (nb : Nm K mg) : Met P w K mg base 1 (C_Nest K) "note_key" (sp_Nest_note_key K) [] := by
  refine metD F nb.cl_Nest nb.me_Nest_note_key sc_Nest_note_key (fun _ _ _ _ _ _ us hl => match us, hl with | [_, _], _ => rfl) len2 (fun cdv A outer s H vs Q E hr h => ⟨_, (pss_cons (ps_set (i := 2) sc_Nest_note_key.nd rfl (Or.inl rfl) (pe_ix ix_tup (pe_ix ix_list (pe_fld (pv 0) rfl) (pe_un un_neg pe_int) (fun _ _ => rfl)) pe_int (fun _ _ => rfl)))
    (pss_cons (ps_if (pt_cmp (pc_din (hu_of hr) (pv 1) (pv 2)))
    (pss_one (ps_ret pe_bl))
    pss_nil)
    (pss_cons (ps_dput (hu_of hr) (pv 2) (pv 1) pe_bl rfl)
    (pss_one (ps_ret pe_bl))))), ?_⟩)
  obtain ⟨_, _, rfl, n, ll, d, ds, l, lv, b, k, rfl, rfl, hB, ⟨⟨dx, hA⟩, hL, hV, hN⟩, hl, h1, h2⟩ := h
  rw [rev_map_snoc] at hL
  have hB' : H b = some (.tup ((ikey k).map kV)) := by rw [kv_ikey]; exact hB
  walk_at "rf"
  refine r_ixL (SqL.of hL) at_last ?_
  walk_at "rf"
  refine r_ixT (SqT.of hV.1) rfl ?_
  walk_at "rf"
  refine ⟨d.2, _, rfl, DGet.t hV.2.1 hB', ?_⟩
  rw [ktab_get]
  walk_at "rf"
  refine r_ite (fun c => ?_) (fun c => ?_)
  · walk_at "rf"
    exact h1 c
  walk_at "rf"
  refine ⟨d.2, _, rfl, DPut.t hV.2.1 hB' (by unfold ktab; rw [List.length_map]; exact hl), ?_⟩
  rw [ktab_put c]
  have f1 : Eb d.2 H (upd H d.2 (.dT (ktab (l.ks ++ [k])))) := Eb.upd hV.2.1 fun xs e => by cases e
  have g1 : upd H d.2 (.dT (ktab (l.ks ++ [k]))) d.2 = some (.dT (ktab (l.ks ++ [k]))) := upd_same
  generalize upd H d.2 (.dT (ktab (l.ks ++ [k]))) = H1 at f1 g1 ⊢
  walk_at "rf"
  have nd : n ≠ d.2 := fun q => (List.nodup_cons.mp hN).1 (by simp [q])
  have ld : ll ≠ d.2 := fun q => (List.nodup_cons.mp (List.nodup_cons.mp hN).2).1 (by simp [q])
  have dd : d.2 ∉ ds.map (·.2) := (List.nodup_cons.mp (List.nodup_cons.mp (List.nodup_cons.mp hN).2).2).1
  have c1 : Ch [d.2] H H1 := Ch.eb f1 (by simp) Ch.refl
  refine h2 c H1 ⟨⟨dx, by walk_at "hl"⟩, by rw [rev_map_snoc]; walk_at "hl", ⟨c1.tup hV.1, g1, hV.2.2.get c1 fun x hx q => ?_⟩, hN⟩ (Ch.eb f1 (by simp [nsOwn]) Ch.refl)
  have e : x = d.2 := by simpa using q
  exact dd (by rw [← e]; exact hx)
end

/-! ### a number, digit by digit -/









def NuAt (K : Frg) (H : Hp) (q : Addr) (sg w : Int) : Prop := (∃ dx, H q = some (.ins (C_Numeral K) dx (fs_Numeral (.int sg) (.int w) (.int 0) (.int 1) (.int 0)))) ∧ (sg = 1 ∨ sg = -1)
theorem NuAt.get {K : Frg} {H H' : Hp} {q : Addr} {sg w : Int} {o : List Addr} (h : NuAt K H q sg w) (c : Ch o H H') (n : q ∉ o) : NuAt K H' q sg w := ⟨⟨h.1.choose, c.get n h.1.choose_spec⟩, h.2⟩
structure Bn where
  d : Bool
  sg : Int
  w : Int
  st : Str
def bn0 : Bn := ⟨false, 1, 0, ""⟩
def BnAt (K : Frg) (H : Hp) (a q : Addr) (s : Bn) : Prop := ∃ dx, H a = some (.ins (C_BencodeNumber K) dx (fs_BencodeNumber (.bl s.d) (.ref q) (.str s.st))) ∧ NuAt K H q s.sg s.w ∧ a ≠ q
theorem BnAt.get {K : Frg} {H H' : Hp} {a q : Addr} {s : Bn} {o : List Addr} (h : BnAt K H a q s) (c : Ch o H H') (na : a ∉ o) (nq : q ∉ o) : BnAt K H' a q s := by
  obtain ⟨dx, h1, h2, h3⟩ := h
  exact ⟨dx, c.get na h1, h2.get c nq, h3⟩
def bnPair (s : Bn) : Int × Int := nrm (s.sg * s.w) 0
def bnEnds (s : Bn) : Bool := decide (s.st = "zero" ∨ s.st = "digits")
def bnDigit (s : Bn) (d : Int) : Bool × Bn :=
  if s.st = "zero" ∨ (s.st = "minus" ∧ d = 0) then (false, s) else (true, { s with st := if s.st = "" ∧ d = 0 then "zero" else "digits", w := s.w * 10 + d })
def bnMinus (s : Bn) : Bool × Bn := if s.st = "" then (true, { s with st := "minus", sg := -1 }) else (false, s)
def bnTake (s : Bn) (o : Int) : Bool × Bn :=
  if o = 101 then (bnEnds s && decide ((bnPair s).2 ≤ 800), { s with d := bnEnds s }) else if o = 45 then bnMinus s else if isDg o = true then bnDigit s (o - 48) else (false, s)
def sp_Numeral___init__ (K : Frg) : Sp := sp1 fun p H Q _ => ∃ a dx, p = .ref a ∧ H a = some (.ins (C_Numeral K) dx []) ∧ ∀ H', NuAt K H' a 1 0 → Ch [a] H H' → Q .non H'
def sp_Numeral_negate (K : Frg) : Sp := sp1 fun p H Q _ => ∃ a sg w, p = .ref a ∧ NuAt K H a sg w ∧ ∀ H', NuAt K H' a (-1) w → Ch [a] H H' → Q .non H'
def sp_Numeral_add_digit (K : Frg) : Sp := sp2 fun p o H Q _ => ∃ a sg w d, p = .ref a ∧ o = .int d ∧ NuAt K H a sg w ∧ ∀ H', NuAt K H' a sg (w * 10 + d) → Ch [a] H H' → Q .non H'
def sp_Numeral_pair (K : Frg) : Sp := sp1 fun p H Q _ => ∃ a sg w, p = .ref a ∧ NuAt K H a sg w ∧ ∀ p H', H' p = some (.tup [.int (nrm (sg * w) 0).1, .int (nrm (sg * w) 0).2]) → Same H H' → Q (.ref p) H'
def sp_BencodeNumber___init__ (K : Frg) : Sp := sp1 fun p H Q _ => ∃ a dx, p = .ref a ∧ H a = some (.ins (C_BencodeNumber K) dx []) ∧ ∀ q H', H q = none → BnAt K H' a q bn0 → Ch [a] H H' → Q .non H'
def SpBn (K : Frg) (f : Bn → Int → Bool × Bn) : Sp := sp2 fun p o H Q _ => ∃ a q s b, p = .ref a ∧ o = .int b ∧ BnAt K H a q s ∧ ∀ H', BnAt K H' a q (f s b).2 → Ch [a, q] H H' → Q (.bl (f s b).1) H'
def sp_BencodeNumber_take (K : Frg) : Sp := SpBn K bnTake
def sp_BencodeNumber__take_digit (K : Frg) : Sp := SpBn K bnDigit
def sp_BencodeNumber__take_minus (K : Frg) : Sp := sp1 fun p H Q _ => ∃ a q s, p = .ref a ∧ BnAt K H a q s ∧ ∀ H', BnAt K H' a q (bnMinus s).2 → Ch [a, q] H H' → Q (.bl (bnMinus s).1) H'
def sp_BencodeNumber_leaf (K : Frg) : Sp := sp1 fun p H Q _ => ∃ a q s, p = .ref a ∧ BnAt K H a q s ∧ ∀ p H', Tp H' p (.tuple [.str "number", .int (bnPair s).1, .int (bnPair s).2]) → Same H H' → Q p H'
/-- a new object: what its making leaves -/
theorem mk_ch {H H2 H' : Hp} {a dx C : Addr} {o : List Addr} (ha : H a = none) (hd : H dx = none) (hne : dx ≠ a) (c : Ch [a] (upd (upd H dx (.own a)) a (.ins C dx [])) H') : Ch o H H' := fun x u h _ => by
  have h1 : x ≠ a := fun e => by rw [e, ha] at h; cases h
  have h2 : x ≠ dx := fun e => by rw [e, hd] at h; cases h
  exact c.get (by simp [h1]) (by rw [upd_ne h1, upd_ne h2]; exact h)
theorem mk_same {H H' : Hp} {a dx C : Addr} (ha : H a = none) (hd : H dx = none) (c : Ch [a] (upd (upd H dx (.own a)) a (.ins C dx [])) H') : Same H H' := fun x u h => by
  have h1 : x ≠ a := fun e => by rw [e, ha] at h; cases h
  have h2 : x ≠ dx := fun e => by rw [e, hd] at h; cases h
  exact c.get (by simp [h1]) (by rw [upd_ne h1, upd_ne h2]; exact h)
theorem mk_free {H : Hp} {a dx C l : Addr} (h : upd (upd H dx (.own a)) a (.ins C dx []) l = none) : H l = none := by
  by_cases e : l = a
  · rw [e, upd_same] at h
    cases h
  rw [upd_ne e] at h
  by_cases e2 : l = dx
  · rw [e2, upd_same] at h
    cases h
  rw [upd_ne e2] at h
  exact h
theorem d_numeral {K : Frg} {H : Hp} {R : Addr → Hp → Prop} {E : XK} (h : ∀ a H', H a = none → NuAt K H' a 1 0 → Same H H' → R a H') : ∀ x dx, H x = none → H dx = none → dx ≠ x → sp_Numeral___init__ K (.ref x :: ([] ++ [])) (upd (upd H dx (.own x)) x (.ins (C_Numeral K) dx [])) (fun v H2 => v = .non ∧ R x H2) E := fun a dx ha hd hne =>
  ⟨_, rfl, a, dx, rfl, upd_same, fun H' hN c => ⟨rfl, h a H' ha hN (mk_same ha hd c)⟩⟩
theorem d_bnum {K : Frg} {H : Hp} {R : Addr → Hp → Prop} {E : XK} (h : ∀ a q H', H a = none → H q = none → BnAt K H' a q bn0 → Same H H' → R a H') : ∀ x dx, H x = none → H dx = none → dx ≠ x → sp_BencodeNumber___init__ K (.ref x :: ([] ++ [])) (upd (upd H dx (.own x)) x (.ins (C_BencodeNumber K) dx [])) (fun v H2 => v = .non ∧ R x H2) E := fun a dx ha hd hne =>
  ⟨_, rfl, a, dx, rfl, upd_same, fun q H' nq hN c => ⟨rfl, h a q H' ha (mk_free nq) hN (mk_same ha hd c)⟩⟩
theorem d_counted {K : Frg} {H : Hp} {R : Addr → Hp → Prop} {E : XK} (h : ∀ a l H', H a = none → H l = none → CtAt K H' a l ct0 → Same H H' → R a H') : ∀ x dx, H x = none → H dx = none → dx ≠ x → sp_Counted___init__ K (.ref x :: ([] ++ [])) (upd (upd H dx (.own x)) x (.ins (C_Counted K) dx [])) (fun v H2 => v = .non ∧ R x H2) E := fun a dx ha hd hne =>
  ⟨_, rfl, a, dx, rfl, upd_same, fun q H' nq hN c => ⟨rfl, h a q H' ha (mk_free nq) hN (mk_same ha hd c)⟩⟩
section
variable {P : Program} {w : World} {K : PySem.W.Frag} {mg : Str → Option Value} {base : Heap} {f : Addr} {fd : FuncData}
theorem ok_Numeral___init__ (F : FunD K "__init__" "Numeral.__init__" (defArgs s_Numeral___init__) (defBody s_Numeral___init__) (defScope s_Numeral___init__) [] [] (meAd "Numeral" "__init__" K) fd) (nb : Nm K mg) : Mak P w K mg base 1 "Numeral" (C_Numeral K) (sp_Numeral___init__ K) [] := by
  refine makD F nb.mk_Numeral nb.g_Numeral sc_Numeral___init__ (fun _ _ _ _ _ _ us hl => match us, hl with | [_], _ => rfl) len1 (fun cdv A outer s H vs Q E hr h => ⟨_, (pss_cons (ps_fld (pv 0) pe_int rfl)
    (pss_cons (ps_fld (pv 0) pe_int rfl)
    (pss_cons (ps_fld (pv 0) pe_int rfl)
    (pss_cons (ps_fld (pv 0) pe_int rfl)
    (pss_one (ps_fld (pv 0) pe_int rfl)))))), ?_⟩)
  obtain ⟨_, rfl, a, dx, rfl, hA, h⟩ := h
  walk_at "rf"
  refine r_fsetE hA nb.cl_Numeral nb.na_Numeral__sign (by decide) (in_Numeral__sign) fun H1 hA1 f1 => ?_
  walk_at "rf"
  refine r_fsetE hA1 nb.cl_Numeral nb.na_Numeral__worth (by simp) (in_Numeral__worth) fun H2 hA2 f2 => ?_
  walk_at "rf"
  refine r_fsetE hA2 nb.cl_Numeral nb.na_Numeral__scale (by simp) (in_Numeral__scale) fun H3 hA3 f3 => ?_
  walk_at "rf"
  refine r_fsetE hA3 nb.cl_Numeral nb.na_Numeral__exponent_sign (by simp) (in_Numeral__exponent_sign) fun H4 hA4 f4 => ?_
  walk_at "rf"
  refine r_fsetE hA4 nb.cl_Numeral nb.na_Numeral__exponent (by simp) (in_Numeral__exponent) fun H5 hA5 f5 => ?_
  exact h H5 ⟨⟨dx, hA5⟩, .inl rfl⟩ (by walk_at "ch")
theorem ok_Numeral_negate (F : FunD K "negate" "Numeral.negate" (defArgs s_Numeral_negate) (defBody s_Numeral_negate) (defScope s_Numeral_negate) [] [] (meAd "Numeral" "negate" K) fd) (nb : Nm K mg) : Met P w K mg base 1 (C_Numeral K) "negate" (sp_Numeral_negate K) [] := by
  refine metD F nb.cl_Numeral nb.me_Numeral_negate sc_Numeral_negate (fun _ _ _ _ _ _ us hl => match us, hl with | [_], _ => rfl) len1 (fun cdv A outer s H vs Q E hr h => ⟨_, (pss_one (ps_fld (pv 0) (pe_un un_neg pe_int) rfl)), ?_⟩)
  obtain ⟨_, rfl, a, sg, w, rfl, ⟨⟨dx, hA⟩, hs⟩, h⟩ := h
  walk_at "rf"
  walk_at "fs"
  intro H1 hA1 f1
  exact h H1 ⟨⟨dx, hA1⟩, .inr rfl⟩ (by walk_at "ch")
theorem ok_Numeral_add_digit (F : FunD K "add_digit" "Numeral.add_digit" (defArgs s_Numeral_add_digit) (defBody s_Numeral_add_digit) (defScope s_Numeral_add_digit) [] [] (meAd "Numeral" "add_digit" K) fd) (nb : Nm K mg) : Met P w K mg base 1 (C_Numeral K) "add_digit" (sp_Numeral_add_digit K) [] := by
  refine metD F nb.cl_Numeral nb.me_Numeral_add_digit sc_Numeral_add_digit (fun _ _ _ _ _ _ us hl => match us, hl with | [_, _], _ => rfl) len2 (fun cdv A outer s H vs Q E hr h => ⟨_, (pss_one (ps_fld (pv 0) (pe_op op_add (pe_op op_mul (pe_fld (pv 0) rfl) pe_int) (pv 1)) rfl)), ?_⟩)
  obtain ⟨_, _, rfl, a, sg, w, d, rfl, rfl, ⟨⟨dx, hA⟩, hs⟩, h⟩ := h
  walk_at "rf"
  walk_at "fs"
  intro H1 hA1 f1
  exact h H1 ⟨⟨dx, hA1⟩, hs⟩ (by walk_at "ch")
theorem ok_Numeral_pair (F : FunD K "pair" "Numeral.pair" (defArgs s_Numeral_pair) (defBody s_Numeral_pair) (defScope s_Numeral_pair) [] [] (meAd "Numeral" "pair" K) fd) (nb : Nm K mg) (c_normal : Cal P w K mg base 1 "normal" sp_normal []) : Met P w K mg base 2 (C_Numeral K) "pair" (sp_Numeral_pair K) [] := by
  refine metD F nb.cl_Numeral nb.me_Numeral_pair sc_Numeral_pair (fun _ _ _ _ _ _ us hl => match us, hl with | [_], _ => rfl) len1 (fun cdv A outer s H vs Q E hr h => ⟨_, (pss_one (ps_ret (pe_c c_normal hr (by decide) rfl (pa_cons (pe_op op_mul (pe_fld (pv 0) rfl) (pe_fld (pv 0) rfl)) (pa_cons (pe_op op_sub (pe_op op_mul (pe_fld (pv 0) rfl) (pe_fld (pv 0) rfl)) (pe_fld (pv 0) rfl)) pa_nil))))), ?_⟩)
  obtain ⟨_, rfl, a, sg, w, rfl, ⟨⟨dx, hA⟩, hs⟩, h⟩ := h
  walk_at "rf"
  refine r_I (.inl ⟨by omega, by omega⟩) ?_
  walk_at "rf"
  refine ⟨_, _, rfl, sg * w, 0, rfl, rfl, fun p x y e np => ?_⟩
  exact h p _ (by rw [upd_same, e]) (same_upd np _)
theorem ok_BencodeNumber___init__ (F : FunD K "__init__" "BencodeNumber.__init__" (defArgs s_BencodeNumber___init__) (defBody s_BencodeNumber___init__) (defScope s_BencodeNumber___init__) [] [] (meAd "BencodeNumber" "__init__" K) fd) (nb : Nm K mg) (k_Numeral : Mak P w K mg base 1 "Numeral" (C_Numeral K) (sp_Numeral___init__ K) []) : Mak P w K mg base 3 "BencodeNumber" (C_BencodeNumber K) (sp_BencodeNumber___init__ K) [] := by
  refine makD F nb.mk_BencodeNumber nb.g_BencodeNumber sc_BencodeNumber___init__ (fun _ _ _ _ _ _ us hl => match us, hl with | [_], _ => rfl) len1 (fun cdv A outer s H vs Q E hr h => ⟨_, (pss_cons (ps_fld (pv 0) pe_bl rfl)
    (pss_cons (ps_fld (pv 0) (pe_mk0 k_Numeral hr (by decide) rfl) rfl)
    (pss_one (ps_fld (pv 0) pe_str rfl)))), ?_⟩)
  obtain ⟨_, rfl, a, dx, rfl, hA, h⟩ := h
  walk_at "rf"
  refine r_fsetE hA nb.cl_BencodeNumber nb.na_BencodeNumber_is_done (by decide) (in_BencodeNumber_is_done) fun H1 hA1 f1 => ?_
  walk_at "rf"
  refine d_numeral fun q H2 nq hN s2 => ?_
  have hne : a ≠ q := Same.ne nq hA1
  have nq0 : H q = none := by rw [← f1.1 q (Ne.symm hne)]; exact nq
  walk_at "rf"
  refine r_fsetE (s2 _ _ hA1) nb.cl_BencodeNumber nb.na_BencodeNumber__numeral (by simp) (in_BencodeNumber__numeral) fun H3 hA3 f3 => ?_
  walk_at "rf"
  refine r_fsetE hA3 nb.cl_BencodeNumber nb.na_BencodeNumber__state (by simp) (in_BencodeNumber__state) fun H4 hA4 f4 => ?_
  have c4 : Ch [a] H2 H4 := by walk_at "ch"
  exact h q H4 nq0 ⟨dx, hA4, hN.get c4 (by simp [Ne.symm hne]), hne⟩ (by walk_at "ch")
theorem ok_BencodeNumber__take_minus (F : FunD K "_take_minus" "BencodeNumber._take_minus" (defArgs s_BencodeNumber__take_minus) (defBody s_BencodeNumber__take_minus) (defScope s_BencodeNumber__take_minus) [] [] (meAd "BencodeNumber" "_take_minus" K) fd) (nb : Nm K mg) (m_Numeral_negate : Met P w K mg base 1 (C_Numeral K) "negate" (sp_Numeral_negate K) []) : Met P w K mg base 2 (C_BencodeNumber K) "_take_minus" (sp_BencodeNumber__take_minus K) [] := by
  refine metD F nb.cl_BencodeNumber nb.me_BencodeNumber__take_minus sc_BencodeNumber__take_minus (fun _ _ _ _ _ _ us hl => match us, hl with | [_], _ => rfl) len1 (fun cdv A outer s H vs Q E hr h => ⟨_, (pss_cons (ps_if (pt_cmpR op_ne (pe_fld (pv 0) rfl) pe_str (nomark _))
    (pss_one (ps_ret pe_bl))
    pss_nil)
    (pss_cons (ps_fld (pv 0) pe_str rfl)
    (pss_cons (ps_expr (pe_mt0 m_Numeral_negate hr (by decide) (pe_fld (pv 0) rfl)))
    (pss_one (ps_ret pe_bl))))), ?_⟩)
  obtain ⟨_, rfl, a, q, s, rfl, hB, h⟩ := h
  obtain ⟨dx, hA, hN, hne⟩ := id hB
  obtain ⟨⟨dq, hq⟩, hsg⟩ := id hN
  walk_at "rf"
  unfold bnMinus at h
  refine r_iten (fun c => ?_) (fun c => ?_)
  · rw [if_neg c] at h
    walk_at "rf"
    exact h H ⟨dx, hA, hN, hne⟩ Ch.refl
  rw [if_pos c] at h
  walk_at "rf"
  walk_at "fs"
  intro H1 hA1 f1
  walk_at "rf"
  refine ⟨_, rfl, q, s.sg, s.w, rfl, hN.get (Ch.eb f1 (o := [a]) (by simp) Ch.refl) (by simp [Ne.symm hne]), fun H2 hN2 c2 => ?_⟩
  walk_at "rf"
  exact h H2 ⟨dx, by walk_at "hl", hN2, hne⟩ (c2.ch (by simp) (by walk_at "ch"))
theorem ok_BencodeNumber__take_digit (F : FunD K "_take_digit" "BencodeNumber._take_digit" (defArgs s_BencodeNumber__take_digit) (defBody s_BencodeNumber__take_digit) (defScope s_BencodeNumber__take_digit) [] [] (meAd "BencodeNumber" "_take_digit" K) fd) (nb : Nm K mg) (m_Numeral_add_digit : Met P w K mg base 1 (C_Numeral K) "add_digit" (sp_Numeral_add_digit K) []) : Met P w K mg base 2 (C_BencodeNumber K) "_take_digit" (sp_BencodeNumber__take_digit K) [] := by
  refine metD F nb.cl_BencodeNumber nb.me_BencodeNumber__take_digit sc_BencodeNumber__take_digit (fun _ _ _ _ _ _ us hl => match us, hl with | [_, _], _ => rfl) len2 (fun cdv A outer s H vs Q E hr h => ⟨_, (pss_cons (ps_if (PW.pt (pw_or (pt_cmpR op_eq (pe_fld (pv 0) rfl) pe_str (nomark _)) (pw_or1 (PW.pt (pw_and (pt_cmpR op_eq (pe_fld (pv 0) rfl) pe_str (nomark _)) (pw_and1 (pt_cmpR op_eq (pv 1) pe_int (nomark _))))))))
    (pss_one (ps_ret pe_bl))
    pss_nil)
    (pss_cons (ps_fld (pv 0) (pe_ifExp (PW.pt (pw_and (pt_cmpR op_eq (pe_fld (pv 0) rfl) pe_str (nomark _)) (pw_and1 (pt_cmpR op_eq (pv 1) pe_int (nomark _))))) pe_str pe_str) rfl)
    (pss_cons (ps_expr (pe_mt m_Numeral_add_digit hr (by decide) (pe_fld (pv 0) rfl) (pa_cons (pv 1) pa_nil)))
    (pss_one (ps_ret pe_bl))))), ?_⟩)
  obtain ⟨_, _, rfl, a, q, s, d, rfl, rfl, ⟨dx, hA, hN, hne⟩, h⟩ := h
  obtain ⟨⟨dq, hq⟩, hsg⟩ := id hN
  have first : ∀ R : Bool → Hp → Prop, R (decide (s.st = "zero" ∨ (s.st = "minus" ∧ d = 0))) H → (tOr (tTest (tOp rEq (tFld K (tVar 0) "_state") (tC (.str "zero")))) (tAnd (tTest (tOp rEq (tFld K (tVar 0) "_state") (tC (.str "minus")))) (tTest (tOp rEq (tVar 1) (tC (.int 0)))))) (L2.start ["self", "digit"] [V.ref a, V.int d]) H R := by
    intro R q
    walk_at "rf"
    refine r_ite (fun c => ?_) (fun c => ?_)
    · rw [decide_eq_true (.inl c)] at q
      exact q
    walk_at "rf"
    refine r_ite (fun c2 => ?_) (fun c2 => ?_)
    · walk_at "rf"
      have e : decide (s.st = "zero" ∨ (s.st = "minus" ∧ d = 0)) = decide (d = 0) := decide_eq_decide.mpr ⟨fun z => z.elim (fun z => absurd z c) And.right, fun z => .inr ⟨c2, z⟩⟩
      rw [e] at q
      exact q
    · rw [decide_eq_false (fun z => z.elim c fun z => c2 z.1)] at q
      exact q
  walk_at "rg"
  refine r_ifB (decide (s.st = "zero" ∨ (s.st = "minus" ∧ d = 0))) (fun R hR => first R hR) ?_
  unfold bnDigit at h
  refine r_ite (fun c => ?_) (fun c => ?_)
  · rw [if_pos c] at h
    walk_at "rf"
    exact h H ⟨dx, hA, hN, hne⟩ Ch.refl
  rw [if_neg c] at h
  walk_at "rk"
  refine r_joinE (.str (if s.st = "" ∧ d = 0 then "zero" else "digits")) ?_ ?_
  · intro R q
    walk_at "rf"
    refine r_ite (fun c => ?_) (fun c => ?_)
    · walk_at "rf"
      refine r_ite (fun c2 => ?_) (fun c2 => ?_)
      · rw [if_pos ⟨c, c2⟩] at q
        walk_at "rf"
        exact q
      · rw [if_neg (fun z => c2 z.2)] at q
        walk_at "rf"
        exact q
    · rw [if_neg (fun z => c z.1)] at q
      walk_at "rf"
      exact q
  walk_at "rf"
  walk_at "fs"
  intro H1 hA1 f1
  walk_at "rf"
  refine ⟨_, _, rfl, q, s.sg, s.w, d, rfl, rfl, hN.get (Ch.eb f1 (o := [a]) (by simp) Ch.refl) (by simp [Ne.symm hne]), fun H2 hN2 c2 => ?_⟩
  walk_at "rf"
  exact h H2 ⟨dx, by walk_at "hl", hN2, hne⟩ (c2.ch (by simp) (by walk_at "ch"))
theorem ok_BencodeNumber_take (F : FunD K "take" "BencodeNumber.take" (defArgs s_BencodeNumber_take) (defBody s_BencodeNumber_take) (defScope s_BencodeNumber_take) [] [] (meAd "BencodeNumber" "take" K) fd) (nb : Nm K mg) (c_is_digit : Cal P w K mg base 1 "is_digit" sp_is_digit []) (m_Numeral_pair : Met P w K mg base 2 (C_Numeral K) "pair" (sp_Numeral_pair K) []) (m_BencodeNumber__take_minus : Met P w K mg base 2 (C_BencodeNumber K) "_take_minus" (sp_BencodeNumber__take_minus K) []) (m_BencodeNumber__take_digit : Met P w K mg base 2 (C_BencodeNumber K) "_take_digit" (sp_BencodeNumber__take_digit K) []) : Met P w K mg base 3 (C_BencodeNumber K) "take" (sp_BencodeNumber_take K) [] := by
  refine metD F nb.cl_BencodeNumber nb.me_BencodeNumber_take sc_BencodeNumber_take (fun _ _ _ _ _ _ us hl => match us, hl with | [_, _], _ => rfl) len2 (fun cdv A outer s H vs Q E hr h => ⟨_, (pss_cons (ps_if (pt_cmpR op_eq (pv 1) (pe_gc rfl nb.g_SMALL_E) (nomark _))
    (pss_cons (ps_fld (pv 0) (pe_cmpR op_in_seq (pe_fld (pv 0) rfl) (pe_tupE (pa_cons pe_str (pa_cons pe_str pa_nil))) rfl) rfl)
    (pss_one (ps_ret (pe_and (pe_fld (pv 0) rfl) (pe_one (pe_cmpR op_le (pe_ix ix_tup (pe_mt0 m_Numeral_pair hr (by decide) (pe_fld (pv 0) rfl)) pe_int (fun _ _ => rfl)) (pe_gc rfl nb.g_LARGEST_EXPONENT) (nomark _)))))))
    pss_nil)
    (pss_cons (ps_if (pt_cmpR op_eq (pv 1) (pe_gc rfl nb.g_MINUS) (nomark _))
    (pss_one (ps_ret (pe_mt0 m_BencodeNumber__take_minus hr (by decide) (pv 0))))
    pss_nil)
    (pss_one (ps_ret (pe_and (pe_c c_is_digit hr (by decide) rfl (pa_cons (pv 1) pa_nil)) (pe_one (pe_mt m_BencodeNumber__take_digit hr (by decide) (pv 0) (pa_cons (pe_op op_sub (pv 1) (pe_gc rfl nb.g_ZERO_marks)) pa_nil)))))))), ?_⟩)
  obtain ⟨_, _, rfl, a, q, s, o, rfl, rfl, hB, h⟩ := h
  obtain ⟨dx, hA, hN, hne⟩ := id hB
  obtain ⟨⟨dq, hq⟩, hsg⟩ := id hN
  unfold bnTake at h
  walk_at "rf"
  refine r_ite (fun c => ?_) (fun c => ?_)
  · rw [if_pos c] at h
    walk_at "rf"
    refine ⟨by show 2 ≤ sizeLine; decide, fun p H1 np g1 s1 => ?_⟩
    refine ⟨p, _, rfl, .inr (SqT.of g1), rfl, rfl, ?_⟩
    have e : (if false = true then !inV (.str s.st) [V.str "zero", V.str "digits"] else inV (.str s.st) [V.str "zero", V.str "digits"]) = bnEnds s := by
      rw [if_neg Bool.false_ne_true]
      unfold bnEnds inV
      have q1 : ∀ x y : Str, eqV (.str x) (.str y) = decide (x = y) := fun x y => by
        show (x == y) = _
        by_cases c : x = y
        · subst c; simp
        · simp [c]
      simp only [List.any_cons, List.any_nil, q1, Bool.or_false]
      by_cases c1 : s.st = "zero"
      · simp [c1]
      · by_cases c2 : s.st = "digits"
        · simp [c2]
        · simp [c1, c2, Ne.symm c1, Ne.symm c2]
    rw [e]
    walk_at "rf"
    walk_at "fs"
    intro H2 hA2 f2
    have c12 : Ch [a] H H2 := by walk_at "ch"
    have hN2 : NuAt K H2 q s.sg s.w := hN.get c12 (by simp [Ne.symm hne])
    walk_at "rf"
    cases hb : bnEnds s with
    | false =>
      rw [hb] at h hA2
      exact h H2 ⟨dx, hA2, hN2, hne⟩ (c12.mono (by simp))
    | true =>
      rw [hb] at h hA2
      walk_at "rf"
      refine ⟨_, rfl, q, s.sg, s.w, rfl, hN2, fun p3 H3 g3 s3 => ?_⟩
      walk_at "rf"
      refine r_ixT (SqT.of g3) rfl ?_
      walk_at "rf"
      exact h H3 ⟨dx, s3 _ _ hA2, hN2.get (Ch.same (o := []) s3 Ch.refl) (by simp), hne⟩ (Ch.same s3 (c12.mono (by simp)))
  rw [if_neg c] at h
  walk_at "rf"
  refine r_ite (fun c => ?_) (fun c => ?_)
  · rw [if_pos c] at h
    walk_at "rf"
    exact ⟨_, rfl, a, q, s, rfl, hB, h⟩
  rw [if_neg c] at h
  walk_at "rf"
  refine ⟨_, rfl, o, rfl, _, rfl, ?_⟩
  cases hd : isDg o with
  | false =>
    rw [hd, if_neg Bool.false_ne_true] at h
    rw [if_neg Bool.false_ne_true]
    exact h H hB Ch.refl
  | true =>
    rw [hd, if_pos rfl] at h
    rw [if_pos rfl]
    walk_at "rf"
    exact ⟨_, _, rfl, a, q, s, _, rfl, rfl, hB, h⟩
theorem ok_BencodeNumber_leaf (F : FunD K "leaf" "BencodeNumber.leaf" (defArgs s_BencodeNumber_leaf) (defBody s_BencodeNumber_leaf) (defScope s_BencodeNumber_leaf) [] [] (meAd "BencodeNumber" "leaf" K) fd) (nb : Nm K mg) (m_Numeral_pair : Met P w K mg base 2 (C_Numeral K) "pair" (sp_Numeral_pair K) []) : Met P w K mg base 3 (C_BencodeNumber K) "leaf" (sp_BencodeNumber_leaf K) [] := by
  refine metD F nb.cl_BencodeNumber nb.me_BencodeNumber_leaf sc_BencodeNumber_leaf (fun _ _ _ _ _ _ us hl => match us, hl with | [_], _ => rfl) len1 (fun cdv A outer s H vs Q E hr h => ⟨_, (pss_cons (ps_asg (pe_mt0 m_Numeral_pair hr (by decide) (pe_fld (pv 0) rfl)) (pg_tup rfl (pgs_cons (pg_name (i := 1) sc_BencodeNumber_leaf.nd rfl (Or.inl rfl)) (pgs_cons (pg_name (i := 2) sc_BencodeNumber_leaf.nd rfl (Or.inl rfl)) pgs_nil))))
    (pss_one (ps_ret (pe_tupE (pa_cons pe_str (pa_cons (pv 1) (pa_cons (pv 2) pa_nil))))))), ?_⟩)
  obtain ⟨_, rfl, a, q, s, rfl, hB, h⟩ := h
  obtain ⟨dx, hA, hN, hne⟩ := id hB
  obtain ⟨⟨dq, hq⟩, hsg⟩ := id hN
  walk_at "rf"
  refine ⟨_, rfl, q, s.sg, s.w, rfl, hN, fun p3 H3 g3 s3 => ?_⟩
  refine r_gtup (SqT.of g3) rfl ?_
  walk_at "rf"
  refine ⟨by show 3 ≤ sizeLine; decide, fun t H4 nt g4 s4 => ?_⟩
  exact h (.ref t) H4 (.tup g4 (.cons (.str _) (.cons (.int _) (.cons (.int _) .nil)))) (s3.trans s4)
end

/-! ### a key, octet by octet -/



structure Bk where
  d : Bool
  c : Ct
  u : U8
def bk0 : Bk := ⟨false, ct0, u80⟩
theorem U8At.get {K : Frg} {H H' : Hp} {a l : Addr} {s : U8} {o : List Addr} (h : U8At K H a l s) (c : Ch o H H') (na : a ∉ o) (nl : l ∉ o) : U8At K H' a l s := by
  obtain ⟨dx, h1, h2⟩ := h
  exact ⟨dx, c.get na h1, c.get nl h2⟩
theorem But.ch {K : Frg} {H H' : Hp} {a l : Addr} {s : U8} (h : But a l H H') (hU : U8At K H a l s) : Ch [a, l] H H' := fun x u hx hn => by
  obtain ⟨dx, h1, h2⟩ := hU
  by_cases e1 : x = a
  · subst e1
    obtain ⟨xs, rfl⟩ := hn (by simp)
    rw [h1] at hx
    cases hx
  by_cases e2 : x = l
  · subst e2
    obtain ⟨xs, rfl⟩ := hn (by simp)
    rw [h2] at hx
    cases hx
  exact h x u e1 e2 hx
/-- Utf8() -/
theorem d_u8 {K : Frg} {H : Hp} {R : Addr → Hp → Prop} {E : XK} (h : ∀ a l H', H a = none → H l = none → U8At K H' a l u80 → Same H H' → R a H') : ∀ x dx, H x = none → H dx = none → dx ≠ x → sp_Utf8___init__ K (.ref x :: ([] ++ [])) (upd (upd H dx (.own x)) x (.ins (C_Utf8 K) dx [])) (fun v H2 => v = .non ∧ R x H2) E := by
  intro a dx ha hd hne
  refine ⟨_, rfl, a, dx, rfl, upd_same, fun l H' hl hla hU g => ⟨rfl, ?_⟩⟩
  have hl0 : H l = none := by
    rw [upd_ne hla] at hl
    by_cases e : l = dx
    · rw [e] at hl ⊢
      exact hd
    · rw [upd_ne e] at hl
      exact hl
  refine h a l H' ha hl0 hU fun b u z => ?_
  have h1 : b ≠ a := fun e => by
    rw [e, ha] at z
    cases z
  have h2 : b ≠ dx := fun e => by
    rw [e, hd] at z
    cases z
  refine g b u h1 ?_
  rw [upd_ne h1, upd_ne h2]
  exact z
def BkAt (K : Frg) (H : Hp) (a c cl u ul : Addr) (s : Bk) : Prop := ∃ dx, H a = some (.ins (C_BencodeKey K) dx (fs_BencodeKey (.bl s.d) (.ref c) (.ref u))) ∧ CtAt K H c cl s.c ∧ U8At K H u ul s.u ∧ [a, c, cl, u, ul].Nodup
theorem BkAt.get {K : Frg} {H H' : Hp} {a c cl u ul : Addr} {s : Bk} {o : List Addr} (h : BkAt K H a c cl u ul s) (k : Ch o H H') (n : ∀ x ∈ [a, c, cl, u, ul], x ∉ o) : BkAt K H' a c cl u ul s := by
  obtain ⟨dx, h1, h2, h3, h4⟩ := h
  exact ⟨dx, k.get (n _ (by simp)) h1, h2.get k (n _ (by simp)) (n _ (by simp)), h3.get k (n _ (by simp)) (n _ (by simp)), h4⟩
def bkFin (d : Bool) (c : Ct) (u : U8) : Bool × Bk := (!c.d || !decide (u.ms > 0), ⟨c.d, c, u⟩)
def bkTake (s : Bk) (o : Int) : Bool × Bk :=
  if (ctTake s.c o).1 = false then (false, { s with c := (ctTake s.c o).2 }) else
  if s.c.b = true then
    if (u8take s.u o).1 = false then (false, { s with c := (ctTake s.c o).2, u := (u8take s.u o).2 })
    else bkFin s.d (ctTake s.c o).2 (u8take s.u o).2
  else bkFin s.d (ctTake s.c o).2 s.u
def BkOk (s : Bk) : Prop := CtOk s.c ∧ s.c.os.length < sizeLine ∧ s.u.ps.length < sizeLine
def sp_BencodeKey___init__ (K : Frg) : Sp := sp1 fun p H Q _ => ∃ a dx, p = .ref a ∧ H a = some (.ins (C_BencodeKey K) dx []) ∧ ∀ c cl u ul H', (∀ x ∈ [c, cl, u, ul], H x = none) → BkAt K H' a c cl u ul bk0 → Ch [a] H H' → Q .non H'
def sp_BencodeKey_take (K : Frg) : Sp := sp2 fun p o H Q _ => ∃ a c cl u ul s b, p = .ref a ∧ o = .int b ∧ BkAt K H a c cl u ul s ∧ BkOk s ∧ ∀ H', BkAt K H' a c cl u ul (bkTake s b).2 → Ch [a, c, cl, u, ul] H H' → Q (.bl (bkTake s b).1) H'
def sp_BencodeKey_leaf (K : Frg) : Sp := sp1 fun p H Q _ => ∃ a c cl u ul s, p = .ref a ∧ BkAt K H a c cl u ul s ∧ ∀ p H', Tp H' p (.tuple [.str "text", kd s.u.ps]) → Same H H' → Q p H'
theorem d_bkey {K : Frg} {H : Hp} {R : Addr → Hp → Prop} {E : XK} (h : ∀ a c cl u ul H', (∀ x ∈ [a, c, cl, u, ul], H x = none) → BkAt K H' a c cl u ul bk0 → Same H H' → R a H') : ∀ x dx, H x = none → H dx = none → dx ≠ x → sp_BencodeKey___init__ K (.ref x :: ([] ++ [])) (upd (upd H dx (.own x)) x (.ins (C_BencodeKey K) dx [])) (fun v H2 => v = .non ∧ R x H2) E := fun a dx ha hd hne =>
  ⟨_, rfl, a, dx, rfl, upd_same, fun c cl u ul H' nq hN k => ⟨rfl, h a c cl u ul H' (ms_cons ha fun x hx => mk_free (nq x hx)) hN (mk_same ha hd k)⟩⟩
theorem or_fin {H : Hp} {Q : VK} {p q : Bool} {t : TE} {σ : St} (h1 : q = false → ∀ R : VK, R (.bl p) H → t σ H R) (h : Q (.bl (q || p)) H) : if q = true then Q (.bl true) H else t σ H Q := by
  cases q with
  | true => rw [if_pos rfl]; exact h
  | false => rw [if_neg Bool.false_ne_true]; exact h1 rfl Q h
section
variable {P : Program} {w : World} {K : PySem.W.Frag} {mg : Str → Option Value} {base : Heap} {f : Addr} {fd : FuncData}
theorem ok_BencodeKey___init__ (F : FunD K "__init__" "BencodeKey.__init__" (defArgs s_BencodeKey___init__) (defBody s_BencodeKey___init__) (defScope s_BencodeKey___init__) [] [] (meAd "BencodeKey" "__init__" K) fd) (nb : Nm K mg) (k_Counted : Mak P w K mg base 1 "Counted" (C_Counted K) (sp_Counted___init__ K) []) (k_Utf8 : Mak P w K mg base 1 "Utf8" (C_Utf8 K) (sp_Utf8___init__ K) []) : Mak P w K mg base 3 "BencodeKey" (C_BencodeKey K) (sp_BencodeKey___init__ K) [] := by
  refine makD F nb.mk_BencodeKey nb.g_BencodeKey sc_BencodeKey___init__ (fun _ _ _ _ _ _ us hl => match us, hl with | [_], _ => rfl) len1 (fun cdv A outer s H vs Q E hr h => ⟨_, (pss_cons (ps_fld (pv 0) pe_bl rfl)
    (pss_cons (ps_fld (pv 0) (pe_mk0 k_Counted hr (by decide) rfl) rfl)
    (pss_one (ps_fld (pv 0) (pe_mk0 k_Utf8 hr (by decide) rfl) rfl)))), ?_⟩)
  obtain ⟨_, rfl, a, dx, rfl, hA, h⟩ := h
  walk_at "rf"
  refine r_fsetE hA nb.cl_BencodeKey nb.na_BencodeKey_is_done (by decide) (in_BencodeKey_is_done) fun H1 hA1 f1 => ?_
  walk_at "rf"
  refine d_counted fun c cl H2 nc ncl hC s2 => ?_
  have ac : a ≠ c := Same.ne nc hA1
  have acl : a ≠ cl := Same.ne ncl hA1
  walk_at "rf"
  refine r_fsetE (s2 _ _ hA1) nb.cl_BencodeKey nb.na_BencodeKey__counted (by simp) (in_BencodeKey__counted) fun H3 hA3 f3 => ?_
  have hC3 : CtAt K H3 c cl ct0 := hC.get (Ch.eb f3 (o := [a]) (by simp) Ch.refl) (by simp [Ne.symm ac]) (by simp [Ne.symm acl])
  walk_at "rf"
  refine d_u8 fun u ul H4 nu nul hU s4 => ?_
  have au : a ≠ u := Same.ne nu hA3
  have aul : a ≠ ul := Same.ne nul hA3
  obtain ⟨dc, hc1, hc2, hc3⟩ := id hC3
  obtain ⟨du, hu1, hu2⟩ := id hU
  have hne := u8_ne hU
  walk_at "rf"
  refine r_fsetE (s4 _ _ hA3) nb.cl_BencodeKey nb.na_BencodeKey__utf8 (by simp) (in_BencodeKey__utf8) fun H5 hA5 f5 => ?_
  have c45 : Ch [a] H4 H5 := by walk_at "ch"
  have c34 : Ch [] H3 H4 := Ch.same s4 Ch.refl
  have fr : ∀ x, H3 x = none → x ≠ a → H x = none := fun x hx hn => by
    have e1 : H2 x = none := by rw [← f3.1 x hn]; exact hx
    have e2 : H1 x = none := s2.free e1
    rw [← f1.1 x hn]
    exact e2
  refine h c cl u ul H5 (ms_cons (by rw [← f1.1 c (Ne.symm ac)]; exact nc) (ms_cons (by rw [← f1.1 cl (Ne.symm acl)]; exact ncl) (ms_cons (fr u nu (Ne.symm au)) (ms_cons (fr ul nul (Ne.symm aul)) ms_nil)))) ⟨dx, hA5, (hC3.get c34 (by simp) (by simp)).get c45 (by simp [Ne.symm ac]) (by simp [Ne.symm acl]), hU.get c45 (by simp [Ne.symm au]) (by simp [Ne.symm aul]), ?_⟩ (by walk_at "ch")
  have cu : c ≠ u := Same.ne nu hc1
  have cul : c ≠ ul := Same.ne nul hc1
  have clu : cl ≠ u := Same.ne nu hc2
  have clul : cl ≠ ul := Same.ne nul hc2
  simp [ac, acl, au, aul, hc3, cu, cul, clu, clul, Ne.symm hne]
theorem ok_BencodeKey_take (F : FunD K "take" "BencodeKey.take" (defArgs s_BencodeKey_take) (defBody s_BencodeKey_take) (defScope s_BencodeKey_take) [] [] (meAd "BencodeKey" "take" K) fd) (nb : Nm K mg) (m_Counted_take : Met P w K mg base 3 (C_Counted K) "take" (sp_Counted_take K) []) (p_Utf8_is_open : Prp P w K mg base 1 (C_Utf8 K) "is_open" (sp_Utf8_is_open K)) (m_Utf8_take : Met P w K mg base 2 (C_Utf8 K) "take" (sp_Utf8_take K) []) : Met P w K mg base 4 (C_BencodeKey K) "take" (sp_BencodeKey_take K) [] := by
  refine metD F nb.cl_BencodeKey nb.me_BencodeKey_take sc_BencodeKey_take (fun _ _ _ _ _ _ us hl => match us, hl with | [_, _], _ => rfl) len2 (fun cdv A outer s H vs Q E hr h => ⟨_, (pss_cons (ps_set (i := 2) sc_BencodeKey_take.nd rfl (Or.inl rfl) (pe_fld (pe_fld (pv 0) rfl) rfl))
    (pss_cons (ps_if (pt_not (pt_val (pe_mt m_Counted_take hr (by decide) (pe_fld (pv 0) rfl) (pa_cons (pv 1) pa_nil))))
    (pss_one (ps_ret pe_bl))
    pss_nil)
    (pss_cut (ps_if (PW.pt (pw_and (pt_val (pv 2)) (pw_and1 (pt_not (pt_val (pe_mt m_Utf8_take hr (by decide) (pe_fld (pv 0) rfl) (pa_cons (pv 1) pa_nil)))))))
    (pss_one (ps_ret pe_bl))
    pss_nil)
    (pss_cons (ps_fld (pv 0) (pe_fld (pe_fld (pv 0) rfl) rfl) rfl)
    (pss_one (ps_ret (pe_or (pe_not (pe_fld (pv 0) rfl)) (pe_one (pe_not (pe_pr p_Utf8_is_open hr (by decide) (pe_fld (pv 0) rfl))))))))))), ?_⟩)
  obtain ⟨_, _, rfl, a, c, cl, u, ul, s, b, rfl, rfl, ⟨dx, hA, hC, hU, hN⟩, ⟨ok1, ok2, ok3⟩, h⟩ := h
  obtain ⟨dc, hc1, hc2, hc3⟩ := id hC
  obtain ⟨du, hu1, hu2⟩ := id hU
  simp only [List.nodup_cons, List.mem_cons, List.not_mem_nil, or_false, not_or] at hN
  obtain ⟨⟨ac, acl, au, aul⟩, ⟨ccl, cu, cul⟩, ⟨clu, clul⟩, ⟨uul, _⟩⟩ := hN
  have hN' : [a, c, cl, u, ul].Nodup := by simp [ac, acl, au, aul, ccl, cu, cul, clu, clul, uul]
  walk_at "rf"
  refine ⟨_, _, rfl, c, cl, s.c, b, rfl, rfl, hC, ok1, ok2, fun H1 hC1 k1 => ?_⟩
  unfold bkTake at h
  have hA1 := k1.get (x := a) (by simp [ac, acl]) hA
  have hU1 : U8At K H1 u ul s.u := hU.get k1 (by simp [Ne.symm cu, Ne.symm clu]) (by simp [Ne.symm cul, Ne.symm clul])
  have k1' : Ch [a, c, cl, u, ul] H H1 := k1.mono (by intro x hx; simp at hx ⊢; rcases hx with e | e <;> simp [e])
  cases h1 : (ctTake s.c b).1 with
  | false =>
    rw [if_pos h1] at h
    walk_at "rf"
    exact h H1 ⟨dx, hA1, hC1, hU1, hN'⟩ k1'
  | true =>
    rw [if_neg (by rw [h1]; decide)] at h
    obtain ⟨du1, hu11, hu12⟩ := id hU1
    obtain ⟨dc1, hc11, hc12, _⟩ := id hC1
    walk_at "rg"
    refine r_cut (fun σ H2 => ∃ t : U8, (∀ H', BkAt K H' a c cl u ul (bkFin s.d (ctTake s.c b).2 t).2 → Ch [a, c, cl, u, ul] H H' → Q (.bl (bkFin s.d (ctTake s.c b).2 t).1) H') ∧ H2 a = some (.ins (C_BencodeKey K) dx (fs_BencodeKey (.bl s.d) (.ref c) (.ref u))) ∧ CtAt K H2 c cl (ctTake s.c b).2 ∧ U8At K H2 u ul t ∧ Ch [a, c, cl, u, ul] H H2 ∧ σ = [some (.ref a), some (.int b), some (.bl s.c.b)]) ?_ ?_
    · walk_at "rf"
      cases hb : s.c.b with
      | false =>
        rw [hb, if_neg Bool.false_ne_true] at h
        walk_at "rf"
        exact ⟨s.u, h, hA1, hC1, hU1, k1', rfl⟩
      | true =>
        rw [hb, if_pos rfl] at h
        walk_at "rf"
        refine ⟨_, _, rfl, u, ul, s.u, b, rfl, rfl, hU1, ok3, fun H2 hU2 k2 => ?_⟩
        have k2 := k2.ch hU1
        have hA2 := k2.get (x := a) (by simp [au, aul]) hA1
        have hC2 := hC1.get k2 (by simp [cu, cul]) (by simp [clu, clul])
        have k2' : Ch [a, c, cl, u, ul] H H2 := k2.ch (by intro x hx; simp at hx ⊢; rcases hx with e | e <;> simp [e]) k1'
        cases h2 : (u8take s.u b).1 with
        | false =>
          rw [if_pos h2] at h
          walk_at "rf"
          exact h H2 ⟨dx, hA2, hC2, hU2, hN'⟩ k2'
        | true =>
          rw [if_neg (by rw [h2]; decide)] at h
          walk_at "rf"
          exact ⟨_, h, hA2, hC2, hU2, k2', rfl⟩
    · rintro σ H2 ⟨t, h, hA2, hC2, hU2, k2, rfl⟩
      obtain ⟨du2, hu21, hu22⟩ := id hU2
      obtain ⟨dc2, hc21, hc22, _⟩ := id hC2
      walk_at "rf"
      walk_at "fs"
      intro H3 hA3 f3
      have k3 : Ch [a] H2 H3 := by walk_at "ch"
      have hU3 := hU2.get k3 (by simp [Ne.symm au]) (by simp [Ne.symm aul])
      have hC3 := hC2.get k3 (by simp [Ne.symm ac]) (by simp [Ne.symm acl])
      obtain ⟨du3, hu31, hu32⟩ := id hU3
      walk_at "rf"
      have h := h H3 ⟨dx, hA3, hC3, hU3, hN'⟩ (k3.ch (by simp) k2)
      refine or_fin (q := !(ctTake s.c b).2.d) (p := !decide (t.ms > 0)) (fun _ R q => ?_) h
      walk_at "rf"
      exact ⟨_, rfl, u, ul, t, rfl, hU3, ⟨_, rfl, q⟩⟩
theorem ok_BencodeKey_leaf (F : FunD K "leaf" "BencodeKey.leaf" (defArgs s_BencodeKey_leaf) (defBody s_BencodeKey_leaf) (defScope s_BencodeKey_leaf) [] [] (meAd "BencodeKey" "leaf" K) fd) (nb : Nm K mg) : Met P w K mg base 1 (C_BencodeKey K) "leaf" (sp_BencodeKey_leaf K) [] := by
  refine metD F nb.cl_BencodeKey nb.me_BencodeKey_leaf sc_BencodeKey_leaf (fun _ _ _ _ _ _ us hl => match us, hl with | [_], _ => rfl) len1 (fun cdv A outer s H vs Q E hr h => ⟨_, (pss_one (ps_ret (pe_tupE (pa_cons pe_str (pa_cons (pe_callTy call_tuple_ofE (by rfl) nb.tuple (by decide +kernel) (pa_cons (pe_fld (pe_fld (pv 0) rfl) rfl) pa_nil)) pa_nil))))), ?_⟩)
  obtain ⟨_, rfl, a, c, cl, u, ul, s, rfl, ⟨dx, hA, hC, hU, hN⟩, h⟩ := h
  obtain ⟨du, hu1, hu2⟩ := id hU
  walk_at "rf"
  refine r_toT (SqL.of hu2) fun t H1 nt g1 s1 => ?_
  walk_at "rf"
  refine ⟨by show 2 ≤ sizeLine; decide, fun q H2 nq g2 s2 => ?_⟩
  exact h (.ref q) H2 (.tup g2 (.cons (.str _) (.cons (tp_kd (s2 _ _ g1)) .nil))) (s1.trans s2)
end

/-! ### the scanner of bencode -/










inductive Tok where
  | no
  | num (n : Bn)
  | key (k : Bk)
  | cnt (c : Ct)
def tokTake : Tok → Int → Bool × Tok
  | .no, _ => (false, .no)
  | .num s, o => ((bnTake s o).1, .num (bnTake s o).2)
  | .key s, o => ((bkTake s o).1, .key (bkTake s o).2)
  | .cnt s, o => ((ctTake s o).1, .cnt (ctTake s o).2)
def tokDone : Tok → Bool
  | .no => false
  | .num s => s.d
  | .key s => s.d
  | .cnt s => s.d
def tokOk : Tok → Prop
  | .no => True
  | .num _ => True
  | .key s => BkOk s
  | .cnt s => CtOk s ∧ s.os.length < sizeLine
structure Sc where
  pl : Nat
  wt : Str
  lv : List Lv
  tk : Tok
theorem kof_map (m : Bool) : kindOf_ m = "map" ↔ m = true := by
  cases m with
  | true => exact ⟨fun _ => rfl, fun _ => rfl⟩
  | false => exact ⟨fun h => absurd h (by decide +kernel), fun h => by cases h⟩
def sc0 : Sc := ⟨0, "value", [], .no⟩
def wtOf : List Lv → Str
  | [] => "nothing"
  | l :: _ => if l.m = true then "key" else "value"
def scEndValue (s : Sc) : Sc := { s with wt := wtOf s.lv }
def scNote (lv : List Lv) (k : List Int) : List Lv := match lv with
  | [] => []
  | l :: r => if k ∈ l.ks then l :: r else ⟨l.m, l.ks ++ [k]⟩ :: r
def scFresh (lv : List Lv) (k : List Int) : Bool := match lv with
  | [] => false
  | l :: _ => !decide (k ∈ l.ks)
def scEndToken (s : Sc) : Bool × List Ev × Sc := match s.tk with
  | .no => (true, [], s)
  | .num n => (true, [.lf "number" [.int (bnPair n).1, .int (bnPair n).2]], scEndValue { s with tk := .no })
  | .cnt c => (true, [.lf "bytes" [kd c.os]], scEndValue { s with tk := .no })
  | .key k => (scFresh s.lv k.u.ps, [.ky k.u.ps], { s with tk := .no, wt := "entry", lv := scNote s.lv k.u.ps })
def scGrow (s : Sc) (m : Bool) : Bool × List Ev × Sc :=
  if s.lv.length = 24 then (false, [], s) else (true, [.op m], { s with lv := ⟨m, []⟩ :: s.lv, wt := if m = true then "key" else "value" })
def scClose (s : Sc) : Bool × List Ev × Sc := match s.lv with
  | [] => (false, [], s)
  | _ :: r => if s.wt = "entry" then (false, [], s) else (true, [.cl], scEndValue { s with lv := r })
def scBegin (s : Sc) (t : Tok) (o : Int) : Bool × List Ev × Sc := ((tokTake t o).1, [], { s with tk := (tokTake t o).2 })
def scMark (s : Sc) (o : Int) : Bool × List Ev × Sc :=
  if o = 101 then scClose s else if s.wt = "nothing" then (false, [], s) else if s.wt = "key" then scBegin s (.key bk0) o
  else if o = 108 then scGrow s false else if o = 100 then scGrow s true else if o = 105 then (true, [], { s with tk := .num bn0 }) else scBegin s (.cnt ct0) o
def scGo (s : Sc) (o : Int) : Bool × List Ev × Sc :=
  if (tokTake s.tk o).1 = false then (false, [], { s with tk := (tokTake s.tk o).2 }) else
  if tokDone (tokTake s.tk o).2 = false then (true, [], { s with tk := (tokTake s.tk o).2 }) else scEndToken { s with tk := (tokTake s.tk o).2 }
def scTake (s : Sc) (o : Int) : Bool × List Ev × Sc := match s.tk with
  | .no => scMark s o
  | .num n => scGo s o
  | .key n => scGo s o
  | .cnt n => scGo s o
def scWant (s : Sc) : Prop := match s.tk with
  | .no => True
  | .num _ => s.wt ≠ "key"
  | .cnt _ => s.wt ≠ "key"
  | .key _ => s.wt = "key"
def Wf (s : Sc) : Prop := tokOk s.tk ∧ scWant s ∧ (s.wt = "key" → s.lv ≠ []) ∧ s.lv.length ≤ 24 ∧ ∀ l ∈ s.lv, l.ks.length < sizeLine
def We (s : Sc) : Prop := scWant s ∧ (s.wt = "key" → s.lv ≠ []) ∧ s.lv.length ≤ 24 ∧ ∀ l ∈ s.lv, l.ks.length < sizeLine
/-! where it stands -/
inductive TkA where
  | no
  | num (a q : Addr)
  | key (a c cl u ul : Addr)
  | cnt (c cl : Addr)
def TkA.own : TkA → List Addr
  | .no => []
  | .num a q => [a, q]
  | .key a c cl u ul => [a, c, cl, u, ul]
  | .cnt c cl => [c, cl]
def TkA.v : TkA → V
  | .no => .non
  | .num a _ => .ref a
  | .key a _ _ _ _ => .ref a
  | .cnt c _ => .ref c
def TkAt (K : Frg) (H : Hp) : TkA → Tok → Prop
  | .no, .no => True
  | .num a q, .num s => BnAt K H a q s
  | .key a c cl u ul, .key s => BkAt K H a c cl u ul s
  | .cnt c cl, .cnt s => CtAt K H c cl s
  | _, _ => False
theorem TkAt.get {K : Frg} {H H' : Hp} {o : List Addr} (k : Ch o H H') : ∀ {A : TkA} {t : Tok}, TkAt K H A t → (∀ x ∈ A.own, x ∉ o) → TkAt K H' A t
  | .no, .no, _, _ => trivial
  | .num a q, .num s, h, n => BnAt.get h k (n _ (by simp [TkA.own])) (n _ (by simp [TkA.own]))
  | .key a c cl u ul, .key s, h, n => BkAt.get h k n
  | .cnt c cl, .cnt s, h, n => CtAt.get h k (n _ (by simp [TkA.own])) (n _ (by simp [TkA.own]))
  | .no, .num _, h, _ => h.elim
  | .no, .key _, h, _ => h.elim
  | .no, .cnt _, h, _ => h.elim
  | .num _ _, .no, h, _ => h.elim
  | .num _ _, .key _, h, _ => h.elim
  | .num _ _, .cnt _, h, _ => h.elim
  | .key _ _ _ _ _, .no, h, _ => h.elim
  | .key _ _ _ _ _, .num _, h, _ => h.elim
  | .key _ _ _ _ _, .cnt _, h, _ => h.elim
  | .cnt _ _, .no, h, _ => h.elim
  | .cnt _ _, .num _, h, _ => h.elim
  | .cnt _ _, .key _, h, _ => h.elim
theorem TkAt.some {K : Frg} {H : Hp} : ∀ {A : TkA} {t : Tok}, TkAt K H A t → ∀ x ∈ A.own, ∃ u, H x = some u
  | .no, .no, _, x, hx => by simp [TkA.own] at hx
  | .num a q, .num s, ⟨dx, h1, ⟨⟨dq, h2⟩, _⟩, _⟩, x, hx => by
    simp [TkA.own] at hx
    rcases hx with rfl | rfl
    · exact ⟨_, h1⟩
    · exact ⟨_, h2⟩
  | .key a c cl u ul, .key s, ⟨dx, h1, ⟨dc, h2, h3, _⟩, ⟨du, h4, h5⟩, _⟩, x, hx => by
    simp [TkA.own] at hx
    rcases hx with rfl | rfl | rfl | rfl | rfl
    · exact ⟨_, h1⟩
    · exact ⟨_, h2⟩
    · exact ⟨_, h3⟩
    · exact ⟨_, h4⟩
    · exact ⟨_, h5⟩
  | .cnt c cl, .cnt s, ⟨dx, h1, h2, _⟩, x, hx => by
    simp [TkA.own] at hx
    rcases hx with rfl | rfl
    · exact ⟨_, h1⟩
    · exact ⟨_, h2⟩
  | .no, .num _, h, _, _ => h.elim
  | .no, .key _, h, _, _ => h.elim
  | .no, .cnt _, h, _, _ => h.elim
  | .num _ _, .no, h, _, _ => h.elim
  | .num _ _, .key _, h, _, _ => h.elim
  | .num _ _, .cnt _, h, _, _ => h.elim
  | .key _ _ _ _ _, .no, h, _, _ => h.elim
  | .key _ _ _ _ _, .num _, h, _, _ => h.elim
  | .key _ _ _ _ _, .cnt _, h, _, _ => h.elim
  | .cnt _ _, .no, h, _, _ => h.elim
  | .cnt _ _, .num _, h, _, _ => h.elim
  | .cnt _ _, .key _, h, _, _ => h.elim
theorem LvAt.some {H : Hp} : ∀ {ds : List (Addr × Addr)} {lv : List Lv}, LvAt H ds lv → ∀ x ∈ ds.map (·.2), ∃ u, H x = some u
  | [], [], _, x, hx => by simp at hx
  | d :: ds, l :: lv, h, x, hx => by
    rcases List.mem_cons.mp hx with e | hx
    · exact ⟨_, by rw [e]; exact h.2.1⟩
    · exact LvAt.some h.2.2 x hx
  | [], _ :: _, h, _, _ => h.elim
  | _ :: _, [], h, _, _ => h.elim
theorem NsAt.some {K : Frg} {H : Hp} {n ll : Addr} {ds : List (Addr × Addr)} {lv : List Lv} (h : NsAt K H n ll ds lv) : ∀ x ∈ nsOwn n ll ds, ∃ u, H x = some u := fun x hx => by
  obtain ⟨⟨dx, h1⟩, h2, h3, _⟩ := h
  rcases List.mem_cons.mp hx with e | hx
  · exact ⟨_, by rw [e]; exact h1⟩
  rcases List.mem_cons.mp hx with e | hx
  · exact ⟨_, by rw [e]; exact h2⟩
  · exact h3.some x hx
structure ScA where
  a : Addr
  n : Addr
  ll : Addr
  ds : List (Addr × Addr)
  t : TkA
def ScA.ns (A : ScA) : List Addr := nsOwn A.n A.ll A.ds
def ScA.own (A : ScA) : List Addr := A.a :: (A.ns ++ A.t.own)
structure ScAt (K : Frg) (H : Hp) (A : ScA) (s : Sc) : Prop where
  sc : ∃ dx, H A.a = some (.ins (C_BencodeScanner K) dx (fs_BencodeScanner (.int s.pl) (.str s.wt) (.ref A.n) A.t.v))
  ns : NsAt K H A.n A.ll A.ds s.lv
  tk : TkAt K H A.t s.tk
  nd : A.own.Nodup
theorem ScAt.get {K : Frg} {H H' : Hp} {o : List Addr} {A : ScA} {s : Sc} (h : ScAt K H A s) (k : Ch o H H') (n : ∀ x ∈ A.own, x ∉ o) : ScAt K H' A s := by
  obtain ⟨⟨dx, h1⟩, h2, h3, h4⟩ := h
  exact ⟨⟨dx, k.get (n _ (List.mem_cons_self ..)) h1⟩, h2.get k fun x hx => n x (List.mem_cons_of_mem _ (List.mem_append_left _ hx)), h3.get k fun x hx => n x (List.mem_cons_of_mem _ (List.mem_append_right _ hx)), h4⟩
theorem ScAt.some {K : Frg} {H : Hp} {A : ScA} {s : Sc} (h : ScAt K H A s) : ∀ x ∈ A.own, ∃ u, H x = some u := fun x hx => by
  rcases List.mem_cons.mp hx with e | hx
  · exact ⟨_, by rw [e]; exact h.sc.choose_spec⟩
  rcases List.mem_append.mp hx with hx | hx
  · exact h.ns.some x hx
  · exact h.tk.some x hx
theorem sca_nd {A : ScA} (h : A.own.Nodup) : A.a ∉ A.ns ∧ A.a ∉ A.t.own ∧ (∀ x ∈ A.ns, x ∉ A.t.own) ∧ (∀ x ∈ A.t.own, x ∉ A.ns) := by
  unfold ScA.own at h
  rw [List.nodup_cons, List.nodup_append] at h
  obtain ⟨h1, h2, h3, h4⟩ := h
  exact ⟨fun q => h1 (List.mem_append_left _ q), fun q => h1 (List.mem_append_right _ q), fun x hx q => h4 x hx x q rfl, fun x hx q => h4 x q x hx rfl⟩
def EvL (H : Hp) (p : Addr) (es : List Ev) : Prop := ∃ vs, H p = some (.lst vs) ∧ TpAll H vs (evD es)
theorem ev_add {H H' : Hp} {p T : Addr} {es : List Ev} {ev : Ev} {vs : List V} (tp : TpAll H vs (evD es)) (hT : Tp H (.ref T) ev.dat) (hp : H' p = some (.lst (vs ++ [.ref T]))) (tk : Tk H H') : EvL H' p (es ++ [ev]) :=
  ⟨_, hp, by rw [evD_app]; exact tpAll_app (TpAll.tk tk _ _ tp) (.cons (Tp.tk tk _ _ hT) .nil)⟩
theorem EvL.get {H H' : Hp} {o : List Addr} {p : Addr} {es : List Ev} (h : EvL H p es) (k : Ch o H H') (n : p ∉ o) : EvL H' p es := by
  obtain ⟨vs, h1, h2⟩ := h
  exact ⟨vs, k.get n h1, TpAll.tk k.tk _ _ h2⟩
theorem evl_len {H : Hp} {vs : List V} {es : List Ev} (h : TpAll H vs (evD es)) : vs.length = es.length := by
  have := tpAll_len h
  unfold evD at this
  rw [List.length_map] at this
  exact this
def sp_BencodeScanner___init__ (K : Frg) : Sp := sp1 fun p H Q _ => ∃ a dx, p = .ref a ∧ H a = some (.ins (C_BencodeScanner K) dx []) ∧ ∀ A H', A.a = a → (∀ x ∈ A.own, x = a ∨ H x = none) → ScAt K H' A sc0 → Ch [a] H H' → Q .non H'
def sp_BencodeScanner__end_value (K : Frg) : Sp := sp1 fun p H Q _ => ∃ A s, p = .ref A.a ∧ ScAt K H A s ∧ s.lv.length ≤ 1000 ∧ ∀ H', ScAt K H' A (scEndValue s) → Ch [A.a] H H' → Q .non H'
/-- what a step of a method with events wishes -/
def ScEv (K : Frg) (H : Hp) (A : ScA) (p : Addr) (es : List Ev) (r : Bool × List Ev × Sc) (Q : VK) : Prop := ∀ A' H', A'.a = A.a → (∀ x ∈ A'.own, x ∈ A.own ∨ H x = none) → ScAt K H' A' r.2.2 → EvL H' p (es ++ r.2.1) → Ch (p :: A.own) H H' → Q (.bl r.1) H'
def sp_BencodeScanner__grow (K : Frg) : Sp := sp3 fun p o e H Q _ => ∃ A s m q es, p = .ref A.a ∧ o = .str (kindOf_ m) ∧ e = .ref q ∧ ScAt K H A s ∧ s.lv.length ≤ 24 ∧ EvL H q es ∧ es.length ≤ 100 ∧ q ∉ A.own ∧ ScEv K H A q es (scGrow s m) Q
def sp_BencodeScanner__close (K : Frg) : Sp := sp2 fun p e H Q _ => ∃ A s q es, p = .ref A.a ∧ e = .ref q ∧ ScAt K H A s ∧ s.lv.length ≤ 24 ∧ EvL H q es ∧ es.length ≤ 100 ∧ q ∉ A.own ∧ ScEv K H A q es (scClose s) Q
def sp_BencodeScanner__end_token (K : Frg) : Sp := sp2 fun p e H Q _ => ∃ A s q es, p = .ref A.a ∧ e = .ref q ∧ ScAt K H A s ∧ We s ∧ s.tk ≠ .no ∧ EvL H q es ∧ es.length ≤ 100 ∧ q ∉ A.own ∧ ScEv K H A q es (scEndToken s) Q
def sp_BencodeScanner__begin_counted (K : Frg) : Sp := sp3 fun p t o H Q _ => ∃ A s T k b, p = .ref A.a ∧ t = T.v ∧ o = .int b ∧ ScAt K H A s ∧ A.t = .no ∧ TkAt K H T k ∧ tokOk k ∧ (k = .key bk0 ∨ k = .cnt ct0) ∧ ({ A with t := T } : ScA).own.Nodup ∧ ∀ H', ScAt K H' { A with t := T } { s with tk := (tokTake k b).2 } → Ch (A.a :: T.own) H H' → Q (.bl (tokTake k b).1) H'
def sp_BencodeScanner__take_mark (K : Frg) : Sp := sp3 fun p o e H Q _ => ∃ A s b q es, p = .ref A.a ∧ o = .int b ∧ e = .ref q ∧ ScAt K H A s ∧ Wf s ∧ s.tk = .no ∧ EvL H q es ∧ es.length ≤ 100 ∧ q ∉ A.own ∧ ScEv K H A q es (scMark s b) Q
def sp_BencodeScanner__take (K : Frg) : Sp := sp3 fun p o e H Q _ => ∃ A s b q es, p = .ref A.a ∧ o = .int b ∧ e = .ref q ∧ ScAt K H A s ∧ Wf s ∧ EvL H q es ∧ es.length ≤ 100 ∧ q ∉ A.own ∧ ScEv K H A q es (scTake s b) Q
/-- Unreadable is raised with this place, and all but these objects stays -/
def Razed (K : Frg) (o : List Addr) (H : Hp) (pl : Nat) (E : XK) : Prop := ∀ d H', H' d = some (.xd [("what", .int pl)]) → Ch o H H' → E (.ref (C_Unreadable K)) (some d) H'
theorem Ch.updn {o : List Addr} {H H1 : Hp} {d : Addr} {u : HO} (c : Ch o H H1) (n : H1 d = none) : Ch o H (upd H1 d u) := fun x y h m => by
  have z := c x y h m
  rw [upd_ne (fun e => by rw [e, n] at z; cases z)]
  exact z
theorem razed {K : Frg} {o o2 : List Addr} {H H1 : Hp} {pl : Nat} {E : XK} (h : Razed K o H pl E) (c : Ch o2 H H1) (m : ∀ x ∈ o2, x ∈ o ∨ H x = none) : ∀ d, H1 d = none → E (.ref (C_Unreadable K)) (some d) (upd H1 d (.xd [("what", .int pl)])) := fun d nd =>
  h d _ upd_same ((c.ch m Ch.refl).updn nd)
theorem Razed.up {K : Frg} {o : List Addr} {H H1 : Hp} {pl : Nat} {E : XK} (h : Razed K o H pl E) (c : Ch o H H1) : Razed K o H1 pl E := fun d H' hd k => h d H' hd (k.ch (fun x hx => .inl hx) c)
/-- a step: the events and what stands behind it, or nothing if the octet is refused -/
def scNext (s : Sc) (o : Int) : Option (List Ev × Sc) := if (scTake s o).1 = true then some ((scTake s o).2.1, { (scTake s o).2.2 with pl := (scTake s o).2.2.pl + 1 }) else none
theorem scMark_pl (s : Sc) (o : Int) : (scMark s o).2.2.pl = s.pl := by
  unfold scMark
  split
  · unfold scClose
    split
    · rfl
    · split <;> rfl
  split
  · rfl
  split
  · rfl
  split
  · unfold scGrow
    split <;> rfl
  split
  · unfold scGrow
    split <;> rfl
  split <;> rfl
theorem scGo_pl (s : Sc) (o : Int) : (scGo s o).2.2.pl = s.pl := by
  unfold scGo
  split
  · rfl
  split
  · rfl
  · unfold scEndToken
    split <;> rfl
theorem scTake_pl (s : Sc) (o : Int) : (scTake s o).2.2.pl = s.pl := by
  unfold scTake
  split
  · exact scMark_pl s o
  · exact scGo_pl s o
  · exact scGo_pl s o
  · exact scGo_pl s o
def sp_BencodeScanner_step (K : Frg) : Sp := sp2 fun p o H Q E => ∃ A s b, p = .ref A.a ∧ o = .int b ∧ ScAt K H A s ∧ Wf s ∧
  (∀ es s', scNext s b = some (es, s') → ∀ A' q H', A'.a = A.a → (∀ x ∈ A'.own, x ∈ A.own ∨ H x = none) → ScAt K H' A' s' → EvL H' q es → H q = none → q ∉ A'.own → Ch A.own H H' → Q (.ref q) H') ∧ (scNext s b = none → Razed K A.own H s.pl E)
def sp_BencodeScanner_end (K : Frg) : Sp := sp1 fun p H Q E => ∃ A s, p = .ref A.a ∧ ScAt K H A s ∧ (s.wt = "nothing" → ∀ q H', H q = none → H' q = some (.lst []) → Same H H' → Q (.ref q) H') ∧ (s.wt ≠ "nothing" → Razed K A.own H s.pl E)
theorem nest_fresh {K : Frg} {H H' : Hp} {n ll : Addr} {d : Addr × Addr} {ds : List (Addr × Addr)} {o : List Addr} (nd : H d.2 = none) (P : Addr → Prop) (hp : ∀ x ∈ nsOwn n ll ds, P x) (hq : H d.2 = none → P d.2) : ∀ x ∈ nsOwn n ll (d :: ds), P x := fun x hx => by
  unfold nsOwn at hx hp
  rw [List.map_cons] at hx
  rcases List.mem_cons.mp hx with e | hx
  · exact hp x (by rw [e]; simp)
  rcases List.mem_cons.mp hx with e | hx
  · exact hp x (by rw [e]; simp)
  rcases List.mem_cons.mp hx with e | hx
  · rw [e]; exact hq nd
  · exact hp x (List.mem_cons_of_mem _ (List.mem_cons_of_mem _ hx))
theorem nest_sub {n ll : Addr} {d : Addr × Addr} {ds : List (Addr × Addr)} : ∀ x ∈ nsOwn n ll ds, x ∈ nsOwn n ll (d :: ds) := fun x hx => by
  unfold nsOwn at hx ⊢
  rw [List.map_cons]
  rcases List.mem_cons.mp hx with e | hx
  · rw [e]; simp
  rcases List.mem_cons.mp hx with e | hx
  · rw [e]; simp
  · exact List.mem_cons_of_mem _ (List.mem_cons_of_mem _ (List.mem_cons_of_mem _ hx))
theorem lv_cons {H : Hp} {ds : List (Addr × Addr)} {l : Lv} {lv : List Lv} (h : LvAt H ds (l :: lv)) : ∃ d ds', ds = d :: ds' := by
  cases ds with
  | nil => exact h.elim
  | cons d ds => exact ⟨d, ds, rfl⟩
section
variable {P : Program} {w : World} {K : PySem.W.Frag} {mg : Str → Option Value} {base : Heap} {f : Addr} {fd : FuncData}
theorem ok_BencodeScanner__end_value (F : FunD K "_end_value" "BencodeScanner._end_value" (defArgs s_BencodeScanner__end_value) (defBody s_BencodeScanner__end_value) (defScope s_BencodeScanner__end_value) [] [] (meAd "BencodeScanner" "_end_value" K) fd) (nb : Nm K mg) (m_Nest_inner : Met P w K mg base 1 (C_Nest K) "inner" (sp_Nest_inner K) []) : Met P w K mg base 2 (C_BencodeScanner K) "_end_value" (sp_BencodeScanner__end_value K) [] := by
  refine metD F nb.cl_BencodeScanner nb.me_BencodeScanner__end_value sc_BencodeScanner__end_value (fun _ _ _ _ _ _ us hl => match us, hl with | [_], _ => rfl) len1 (fun cdv A outer s H vs Q E hr h => ⟨_, (pss_cons (ps_set (i := 1) sc_BencodeScanner__end_value.nd rfl (Or.inl rfl) (pe_mt0 m_Nest_inner hr (by decide) (pe_fld (pv 0) rfl)))
    (pss_one (ps_fld (pv 0) (pe_ifExp (pt_cmpR op_isN (pv 1) pe_non (nomark _)) pe_str (pe_ifExp (pt_cmpR op_eq (pv 1) pe_str (nomark _)) pe_str pe_str)) rfl))), ?_⟩)
  obtain ⟨_, rfl, A, s, rfl, ⟨⟨dx, hA⟩, hN, hT, nd⟩, hl, h⟩ := h
  obtain ⟨n1, n2, n3, n4⟩ := sca_nd nd
  obtain ⟨⟨dn, hn⟩, hL, hV, hD⟩ := id hN
  walk_at "rf"
  refine ⟨_, rfl, A.n, A.ll, A.ds, s.lv, rfl, hN, hl, ?_⟩
  walk_at "rk"
  refine r_joinE (.str (wtOf s.lv)) ?_ ?_
  · intro R q
    cases hlv : s.lv with
    | nil =>
      rw [hlv] at q
      walk_at "rf"
      exact q
    | cons l r =>
      rw [hlv] at q
      walk_at "rf"
      rw [show decide (kindV (l :: r) = V.non) = false from rfl, show kindV (l :: r) = .str (kindOf_ l.m) from rfl]
      have q : R (.str (if l.m = true then "key" else "value")) H := q
      walk_at "rf"
      refine r_ite (fun c => ?_) (fun c => ?_)
      · rw [if_pos ((kof_map _).mp c)] at q
        walk_at "rf"
        exact q
      · rw [if_neg (fun z => c (by rw [z]; rfl))] at q
        walk_at "rf"
        exact q
  walk_at "rf"
  walk_at "fs"
  intro H1 hA1 f1
  have k1 : Ch [A.a] H H1 := by walk_at "ch"
  exact h H1 ⟨⟨dx, hA1⟩, hN.get k1 (fun x hx q => n1 (by rw [List.mem_singleton.mp q] at hx; exact hx)), hT.get k1 (fun x hx q => n2 (by rw [List.mem_singleton.mp q] at hx; exact hx)), nd⟩ k1
theorem ok_BencodeScanner__grow (F : FunD K "_grow" "BencodeScanner._grow" (defArgs s_BencodeScanner__grow) (defBody s_BencodeScanner__grow) (defScope s_BencodeScanner__grow) [] [] (meAd "BencodeScanner" "_grow" K) fd) (nb : Nm K mg) (m_Nest_grow : Met P w K mg base 1 (C_Nest K) "grow" (sp_Nest_grow K) []) : Met P w K mg base 2 (C_BencodeScanner K) "_grow" (sp_BencodeScanner__grow K) [] := by
  refine metD F nb.cl_BencodeScanner nb.me_BencodeScanner__grow sc_BencodeScanner__grow (fun _ _ _ _ _ _ us hl => match us, hl with | [_, _, _], _ => rfl) len3 (fun cdv A outer s H vs Q E hr h => ⟨_, (pss_cons (ps_if (pt_not (pt_val (pe_mt m_Nest_grow hr (by decide) (pe_fld (pv 0) rfl) (pa_cons (pv 1) pa_nil))))
    (pss_one (ps_ret pe_bl))
    pss_nil)
    (pss_cons (ps_expr (pe_bm PySem.F.plainAttrs_list PySem.F.slot_list_append PySem.F.type_list_append mt_append (pv 2) (pa_cons (pe_tupE (pa_cons pe_str (pa_cons (pv 1) pa_nil))) pa_nil)))
    (pss_cons (ps_fld (pv 0) (pe_ifExp (pt_cmpR op_eq (pv 1) pe_str (nomark _)) pe_str pe_str) rfl)
    (pss_one (ps_ret pe_bl))))), ?_⟩)
  obtain ⟨_, _, _, rfl, A, s, m, q, es, rfl, rfl, rfl, ⟨⟨dx, hA⟩, hN, hT, nd⟩, hl, ⟨vs, hq, tp⟩, hes, qn, h⟩ := h
  obtain ⟨n1, n2, n3, n4⟩ := sca_nd nd
  obtain ⟨⟨dn, hn⟩, hL, hV, hD⟩ := id hN
  unfold scGrow at h
  walk_at "rf"
  refine ⟨_, _, rfl, A.n, A.ll, A.ds, s.lv, m, rfl, rfl, hN, hl, fun c => ?_, fun c d H1 nd1 nd2 hN1 k1 => ?_⟩
  · rw [if_pos c] at h
    walk_at "rf"
    exact h A H rfl (fun x hx => .inl hx) ⟨⟨dx, hA⟩, hN, hT, nd⟩ ⟨vs, hq, by rw [List.append_nil]; exact tp⟩ Ch.refl
  rw [if_neg c] at h
  have qa : q ≠ A.a := fun e => qn (by rw [e]; exact List.mem_cons_self ..)
  have qns : q ∉ A.ns := fun e => qn (List.mem_cons_of_mem _ (List.mem_append_left _ e))
  have hA1 := k1.get n1 hA
  have hq1 := k1.get qns hq
  have hT1 := hT.get k1 n4
  walk_at "rf"
  refine ⟨tyL hq1, ?_⟩
  walk_at "rf"
  refine ⟨by show 2 ≤ sizeLine; decide, fun T H2 nT gT s2 => ?_⟩
  walk_at "rf"
  refine r_appE (s2 _ _ hq1) (by rw [evl_len tp]; exact small1000 (by omega)) fun H3 hq3 f3 => ?_
  have hA3 := f3.get (Ne.symm qa) (s2 _ _ hA1)
  walk_at "rk"
  refine r_joinE (.str (if m = true then "key" else "value")) ?_ ?_
  · intro R z
    walk_at "rf"
    refine r_ite (fun c => ?_) (fun c => ?_)
    · rw [if_pos ((kof_map _).mp c)] at z
      walk_at "rf"
      exact z
    · rw [if_neg (fun z => c (by rw [z]; rfl))] at z
      walk_at "rf"
      exact z
  walk_at "rf"
  walk_at "fs"
  intro H4 hA4 f4
  walk_at "rf"
  have k13 : Ch [q] H1 H3 := by walk_at "ch"
  have k34 : Ch [A.a] H3 H4 := by walk_at "ch"
  have tk12 : Tk H H2 := k1.tk.trans (Same.tk s2)
  have sub : ∀ x ∈ nsOwn A.n A.ll (d :: A.ds), x ≠ A.a ∧ x ≠ q ∧ x ∉ A.t.own := nest_fresh (K := K) (H' := H) (o := []) nd2 (fun x => x ≠ A.a ∧ x ≠ q ∧ x ∉ A.t.own)
    (fun x hx => ⟨fun e => n1 (by rw [← e]; exact hx), fun e => qns (by rw [← e]; exact hx), n3 x hx⟩) fun z => ⟨fun e => (by rw [e, hA] at z; cases z), fun e => (by rw [e, hq] at z; cases z), fun e => (by obtain ⟨u, hu⟩ := hT.some _ e; rw [hu] at z; cases z)⟩
  have d13 := k13.tk
  have e3 : EvL H3 q (es ++ [.op m]) := ev_add (TpAll.tk tk12 _ _ tp) (.tup gT (.cons (.str _) (.cons (.str _) .nil))) hq3 (fun b xs h => (f3.1 b fun q => by rw [q] at h; exact f3.2 xs h).trans h)
  have hN3 := hN1.get k13 fun x hx z => (sub x hx).2.1 (List.mem_singleton.mp z)
  have hT3 := hT1.get k13 fun x hx z => qn (by rw [← List.mem_singleton.mp z]; exact List.mem_cons_of_mem _ (List.mem_append_right _ hx))
  refine h { A with ds := d :: A.ds } H4 rfl ?_ ⟨⟨dx, hA4⟩, ?_, ?_, ?_⟩ ?_ ?_
  · intro x hx
    rcases List.mem_cons.mp hx with e | hx
    · exact .inl (by rw [e]; exact List.mem_cons_self ..)
    rcases List.mem_append.mp hx with hx | hx
    · exact nest_fresh (K := K) (H' := H) (o := []) nd2 (fun x => x ∈ A.own ∨ H x = none) (fun x hx => .inl (List.mem_cons_of_mem _ (List.mem_append_left _ hx))) (fun z => .inr z) x hx
    · exact .inl (List.mem_cons_of_mem _ (List.mem_append_right _ hx))
  · exact hN3.get k34 fun x hx z => (sub x hx).1 (List.mem_singleton.mp z)
  · exact hT3.get k34 fun x hx z => n2 (by rw [← List.mem_singleton.mp z]; exact hx)
  · unfold ScA.own at nd ⊢
    rw [List.nodup_cons, List.nodup_append] at nd ⊢
    refine ⟨fun z => ?_, hN1.2.2.2, nd.2.2.1, fun x hx y hy z => (sub x hx).2.2 (by rw [z]; exact hy)⟩
    rcases List.mem_append.mp z with z | z
    · exact (sub _ z).1 rfl
    · exact n2 z
  · exact e3.get k34 (by simp [qa])
  · refine k34.ch (by simp [ScA.own]) (k13.ch (by simp) (Ch.mono k1 fun x hx => List.mem_cons_of_mem _ (List.mem_cons_of_mem _ (List.mem_append_left _ hx))))
end

section
variable {P : Program} {w : World} {K : PySem.W.Frag} {mg : Str → Option Value} {base : Heap} {f : Addr} {fd : FuncData}
theorem ok_BencodeScanner__close (F : FunD K "_close" "BencodeScanner._close" (defArgs s_BencodeScanner__close) (defBody s_BencodeScanner__close) (defScope s_BencodeScanner__close) [] [] (meAd "BencodeScanner" "_close" K) fd) (nb : Nm K mg) (m_Nest_inner : Met P w K mg base 1 (C_Nest K) "inner" (sp_Nest_inner K) []) (m_Nest_shrink : Met P w K mg base 1 (C_Nest K) "shrink" (sp_Nest_shrink K) []) (m_BencodeScanner__end_value : Met P w K mg base 2 (C_BencodeScanner K) "_end_value" (sp_BencodeScanner__end_value K) []) : Met P w K mg base 3 (C_BencodeScanner K) "_close" (sp_BencodeScanner__close K) [] := by
  refine metD F nb.cl_BencodeScanner nb.me_BencodeScanner__close sc_BencodeScanner__close (fun _ _ _ _ _ _ us hl => match us, hl with | [_, _], _ => rfl) len2 (fun cdv A outer s H vs Q E hr h => ⟨_, (pss_cons (ps_if (PW.pt (pw_or (pt_cmpR op_isN (pe_mt0 m_Nest_inner hr (by decide) (pe_fld (pv 0) rfl)) pe_non (nomark _)) (pw_or1 (pt_cmpR op_eq (pe_fld (pv 0) rfl) pe_str (nomark _)))))
    (pss_one (ps_ret pe_bl))
    pss_nil)
    (pss_cons (ps_expr (pe_mt0 m_Nest_shrink hr (by decide) (pe_fld (pv 0) rfl)))
    (pss_cons (ps_expr (pe_bm PySem.F.plainAttrs_list PySem.F.slot_list_append PySem.F.type_list_append mt_append (pv 1) (pa_cons (pe_tupE (pa_cons pe_str pa_nil)) pa_nil)))
    (pss_cons (ps_expr (pe_mt0 m_BencodeScanner__end_value hr (by decide) (pv 0)))
    (pss_one (ps_ret pe_bl)))))), ?_⟩)
  obtain ⟨_, _, rfl, A, s, q, es, rfl, rfl, hS, hl, hE, hes, qn, h⟩ := h
  obtain ⟨⟨dx, hA⟩, hN, hT, nd⟩ := id hS
  obtain ⟨vs, hq, tp⟩ := id hE
  obtain ⟨n1, n2, n3, n4⟩ := sca_nd nd
  obtain ⟨⟨dn, hn⟩, hL, hV, hD⟩ := id hN
  unfold scClose at h
  have qa : q ≠ A.a := fun e => qn (by rw [e]; exact List.mem_cons_self ..)
  have qns : q ∉ A.ns := fun e => qn (List.mem_cons_of_mem _ (List.mem_append_left _ e))
  walk_at "rf"
  refine ⟨_, rfl, A.n, A.ll, A.ds, s.lv, rfl, hN, by omega, ?_⟩
  cases hlv : s.lv with
  | nil =>
    rw [hlv] at h
    walk_at "rf"
    refine r_itep rfl ?_
    walk_at "rf"
    exact h A H rfl (fun x hx => .inl hx) hS ⟨vs, hq, by rw [List.append_nil]; exact tp⟩ Ch.refl
  | cons l r =>
    rw [hlv] at h hV
    obtain ⟨d, ds, ed⟩ := lv_cons hV
    rw [show kindV (l :: r) = .str (kindOf_ l.m) from rfl]
    walk_at "rf"
    refine r_iteN (fun e => by cases e) ?_
    walk_at "rf"
    refine r_ite (fun c => ?_) (fun c => ?_)
    · have h : ScEv K H A q es (if s.wt = "entry" then (false, [], s) else (true, [Ev.cl], scEndValue { s with lv := r })) Q := h
      rw [if_pos c] at h
      walk_at "rf"
      exact h A H rfl (fun x hx => .inl hx) hS ⟨vs, hq, by rw [List.append_nil]; exact tp⟩ Ch.refl
    have h : ScEv K H A q es (if s.wt = "entry" then (false, [], s) else (true, [Ev.cl], scEndValue { s with lv := r })) Q := h
    rw [if_neg c] at h
    have hNd : NsAt K H A.n A.ll (d :: ds) (l :: r) := by rw [← ed, ← hlv]; exact hN
    walk_at "rf"
    refine ⟨_, rfl, A.n, A.ll, d, ds, l, r, rfl, hNd, fun H1 hN1 k1 => ?_⟩
    rw [← ed] at k1
    have hA1 := k1.get n1 hA
    have hq1 := k1.get qns hq
    have hT1 := hT.get k1 n4
    walk_at "rf"
    refine ⟨tyL hq1, ?_⟩
    walk_at "rf"
    refine ⟨by show 1 ≤ sizeLine; decide, fun T H2 nT gT s2 => ?_⟩
    walk_at "rf"
    refine r_appE (s2 _ _ hq1) (by rw [evl_len tp]; exact small1000 (by omega)) fun H3 hq3 f3 => ?_
    have k13 : Ch [q] H1 H3 := by walk_at "ch"
    have e3 : EvL H3 q (es ++ [.cl]) := ev_add (TpAll.tk (k1.tk.trans (Same.tk s2)) _ _ tp) (.tup gT (.cons (.str _) .nil)) hq3 (fun b xs h => (f3.1 b fun q => by rw [q] at h; exact f3.2 xs h).trans h)
    have sub : ∀ x ∈ nsOwn A.n A.ll ds, x ∈ A.ns := fun x hx => by
      show x ∈ nsOwn A.n A.ll A.ds
      rw [ed]
      exact nest_sub x hx
    have hN3 := hN1.get k13 fun x hx z => qns (by rw [← List.mem_singleton.mp z]; exact sub x hx)
    have hT3 := hT1.get k13 fun x hx z => qn (by rw [← List.mem_singleton.mp z]; exact List.mem_cons_of_mem _ (List.mem_append_right _ hx))
    have hA3 := k13.get (by simp [Ne.symm qa]) hA1
    have nd3 : ({ A with ds := ds } : ScA).own.Nodup := by
      refine nd.sublist ?_
      unfold ScA.own ScA.ns
      rw [ed]
      exact List.Sublist.cons₂ _ (List.Sublist.append (List.Sublist.cons₂ _ (List.Sublist.cons₂ _ (List.sublist_cons_self ..))) (List.Sublist.refl _))
    walk_at "rf"
    refine ⟨_, rfl, { A with ds := ds }, { s with lv := r }, rfl, ⟨⟨dx, hA3⟩, hN3, hT3, nd3⟩, by show r.length ≤ 1000; rw [hlv] at hl; show r.length ≤ 1000; simp at hl; omega, fun H4 hS4 k4 => ?_⟩
    walk_at "rf"
    refine h { A with ds := ds } H4 rfl (fun x hx => .inl ?_) hS4 (e3.get k4 (by simp [qa])) ?_
    · rcases List.mem_cons.mp hx with e | hx
      · rw [e]; exact List.mem_cons_self ..
      rcases List.mem_append.mp hx with hx | hx
      · exact List.mem_cons_of_mem _ (List.mem_append_left _ (sub x hx))
      · exact List.mem_cons_of_mem _ (List.mem_append_right _ hx)
    · exact k4.ch (by simp [ScA.own]) (k13.ch (by simp) (Ch.mono k1 fun x hx => List.mem_cons_of_mem _ (List.mem_cons_of_mem _ (List.mem_append_left _ hx))))
theorem ok_BencodeScanner__begin_counted (F : FunD K "_begin_counted" "BencodeScanner._begin_counted" (defArgs s_BencodeScanner__begin_counted) (defBody s_BencodeScanner__begin_counted) (defScope s_BencodeScanner__begin_counted) [] [] (meAd "BencodeScanner" "_begin_counted" K) fd) (nb : Nm K mg) (m_Counted_take : Met P w K mg base 3 (C_Counted K) "take" (sp_Counted_take K) []) (m_BencodeKey_take : Met P w K mg base 4 (C_BencodeKey K) "take" (sp_BencodeKey_take K) []) : Met P w K mg base 5 (C_BencodeScanner K) "_begin_counted" (sp_BencodeScanner__begin_counted K) [] := by
  refine metD F nb.cl_BencodeScanner nb.me_BencodeScanner__begin_counted sc_BencodeScanner__begin_counted (fun _ _ _ _ _ _ us hl => match us, hl with | [_, _, _], _ => rfl) len3 (fun cdv A outer s H vs Q E hr h => ⟨_, (pss_cons (ps_fld (pv 0) (pv 1) rfl)
    (pss_one (ps_ret (pe_alt (pe_mt m_Counted_take hr (by decide) (pv 1) (pa_cons (pv 2) pa_nil)) (pe_mt m_BencodeKey_take hr (by decide) (pv 1) (pa_cons (pv 2) pa_nil)))))), ?_⟩)
  obtain ⟨_, t, _, rfl, A, s, T, k, b, rfl, ht, rfl, ⟨⟨dx, hA⟩, hN, hT, nd0⟩, hno, hk, ok, hor, nd, h⟩ := h
  obtain ⟨n1, n2, n3, n4⟩ := sca_nd nd
  have n1 : A.a ∉ A.ns := n1
  have n2 : A.a ∉ T.own := n2
  have n3 : ∀ x ∈ A.ns, x ∉ T.own := n3
  have n4 : ∀ x ∈ T.own, x ∉ A.ns := n4
  walk_at "rf"
  walk_at "fs"
  intro H1 hA1 f1
  have k1 : Ch [A.a] H H1 := by walk_at "ch"
  have hk1 := hk.get k1 fun x hx z => n2 (by rw [← List.mem_singleton.mp z]; exact hx)
  have hN1 := hN.get k1 fun x hx z => n1 (by rw [← List.mem_singleton.mp z]; exact hx)
  have fin : ∀ H2, TkAt K H2 T (tokTake k b).2 → Ch T.own H1 H2 → Q (.bl (tokTake k b).1) H2 := fun H2 hk2 k2 => by
    refine h H2 ⟨⟨dx, by rw [← ht]; exact k2.get n2 hA1⟩, hN1.get k2 n3, hk2, nd⟩ (k2.ch (fun x hx => .inl (List.mem_cons_of_mem _ hx)) (k1.mono (by simp)))
  walk_at "rf"
  rcases hor with rfl | rfl
  · cases T with
    | no => exact hk1.elim
    | num a q => exact hk1.elim
    | cnt a q => exact hk1.elim
    | key a c cl u ul =>
      obtain ⟨dk, hka, _⟩ := id (show BkAt K H1 a c cl u ul bk0 from hk1)
      have ht : t = .ref a := ht
      subst ht
      refine .inr ?_
      walk_at "rf"
      exact ⟨_, _, rfl, a, c, cl, u, ul, bk0, b, rfl, rfl, hk1, ok, fun H2 hk2 k2 => fin H2 hk2 k2⟩
  · cases T with
    | no => exact hk1.elim
    | num a q => exact hk1.elim
    | key a c cl u ul => exact hk1.elim
    | cnt c cl =>
      obtain ⟨dk, hka, _⟩ := id (show CtAt K H1 c cl ct0 from hk1)
      have ht : t = .ref c := ht
      subst ht
      refine .inl ?_
      walk_at "rf"
      exact ⟨_, _, rfl, c, cl, ct0, b, rfl, rfl, hk1, ok.1, ok.2, fun H2 hk2 k2 => fin H2 hk2 k2⟩
theorem ok_BencodeScanner_end (F : FunD K "end" "BencodeScanner.end" (defArgs s_BencodeScanner_end) (defBody s_BencodeScanner_end) (defScope s_BencodeScanner_end) [] [] (meAd "BencodeScanner" "end" K) fd) (nb : Nm K mg) (z_Unreadable : Raz P w K mg base "Unreadable" (C_Unreadable K) "what") : MetX P w K mg base 3 (C_BencodeScanner K) "end" (sp_BencodeScanner_end K) := by
  refine metXD F nb.cl_BencodeScanner nb.me_BencodeScanner_end sc_BencodeScanner_end (fun _ _ _ _ _ _ us hl => match us, hl with | [_], _ => rfl) len1 (fun cdv A outer s H vs Q E hr h => ⟨_, (pss_cons (ps_if (pt_cmpR op_ne (pe_fld (pv 0) rfl) pe_str (nomark _))
    (pss_one (ps_raz z_Unreadable rfl hr (by decide) rfl (takes_of rfl rfl rfl rfl) (pe_fld (pv 0) rfl)))
    pss_nil)
    (pss_one (ps_ret (pe_lstE pa_nil)))), ?_⟩)
  obtain ⟨_, rfl, A, s, rfl, ⟨⟨dx, hA⟩, hN, hT, nd⟩, h, hr0⟩ := h
  walk_at "rf"
  by_cases hw : s.wt = "nothing"
  · refine r_no hw ?_
    walk_at "rf"
    exact ⟨by show 0 ≤ sizeLine; decide, fun q H2 nq g2 s2 => h hw q H2 nq g2 s2⟩
  · rw [if_pos (by rw [decide_eq_false hw]; rfl)]
    walk_at "rf"
    exact razed (hr0 hw) (Ch.refl (o := A.own)) fun x hx => .inl hx
theorem ok_BencodeScanner_step (F : FunD K "step" "BencodeScanner.step" (defArgs s_BencodeScanner_step) (defBody s_BencodeScanner_step) (defScope s_BencodeScanner_step) [] [] (meAd "BencodeScanner" "step" K) fd) (nb : Nm K mg) (z_Unreadable : Raz P w K mg base "Unreadable" (C_Unreadable K) "what") (m_BencodeScanner__take : Met P w K mg base 7 (C_BencodeScanner K) "_take" (sp_BencodeScanner__take K) []) : MetX P w K mg base 8 (C_BencodeScanner K) "step" (sp_BencodeScanner_step K) := by
  refine metXD F nb.cl_BencodeScanner nb.me_BencodeScanner_step sc_BencodeScanner_step (fun _ _ _ _ _ _ us hl => match us, hl with | [_, _], _ => rfl) len2 (fun cdv A outer s H vs Q E hr h => ⟨_, (pss_cons (ps_set (i := 2) sc_BencodeScanner_step.nd rfl (Or.inl rfl) (pe_lstE pa_nil))
    (pss_cons (ps_if (pt_not (pt_val (pe_mt m_BencodeScanner__take hr (by decide) (pv 0) (pa_cons (pv 1) (pa_cons (pv 2) pa_nil)))))
    (pss_one (ps_raz z_Unreadable rfl hr (by decide) rfl (takes_of rfl rfl rfl rfl) (pe_fld (pv 0) rfl)))
    pss_nil)
    (pss_cons (ps_fld (pv 0) (pe_op op_add (pe_fld (pv 0) rfl) pe_int) rfl)
    (pss_one (ps_ret (pv 2)))))), ?_⟩)
  obtain ⟨_, _, rfl, A, s, b, rfl, rfl, hS, hW, h, hr0⟩ := h
  obtain ⟨⟨dx, hA⟩, hN, hT, nd⟩ := id hS
  walk_at "rf"
  refine ⟨by show 0 ≤ sizeLine; decide, fun q H1 nq gq s1 => ?_⟩
  have k1 : Ch [] H H1 := Ch.same s1 Ch.refl
  have hS1 := hS.get k1 (by simp)
  have hA1 := s1 _ _ hA
  have own1 := hS.some
  walk_at "rf"
  refine ⟨_, _, _, rfl, A, s, b, q, [], rfl, rfl, rfl, hS1, hW, ⟨[], gq, .nil⟩, Nat.zero_le _, fun z => ?_, ?_⟩
  · obtain ⟨u, hu⟩ := own1 q z
    rw [nq] at hu
    cases hu
  intro A' H2 ea fr hS2 hE2 k2
  obtain ⟨⟨dx2, hA2⟩, hN2, hT2, nd2⟩ := id hS2
  rw [ea] at hA2
  cases hok : (scTake s b).1 with
  | false =>
    have hr1 := hr0 (by
      unfold scNext
      rw [if_neg (by rw [hok]; decide)])
    rw [scTake_pl] at hA2
    walk_at "rf"
    exact razed hr1 (k2.ch (o := q :: A.own) (fun x hx => .inl hx) (Ch.same s1 Ch.refl)) fun x hx => by
      rcases List.mem_cons.mp hx with y | y
      · exact .inr (by rw [y]; exact nq)
      · exact .inl y
  | true =>
  replace h := h _ _ (show scNext s b = some ((scTake s b).2.1, { (scTake s b).2.2 with pl := (scTake s b).2.2.pl + 1 }) by
    unfold scNext
    rw [if_pos hok])
  obtain ⟨m1, m2, m3, m4⟩ := sca_nd nd2
  walk_at "rf"
  walk_at "fs"
  intro H3 hA3 f3
  have k3 : Ch [A'.a] H2 H3 := by
    rw [ea]
    walk_at "ch"
  have fr2 : ∀ x ∈ A'.own, x ∈ A.own ∨ H x = none := fun x hx => (fr x hx).imp id fun z => s1.free z
  have qn : q ∉ A'.own := fun z => by
    rcases fr q z with e | e
    · obtain ⟨u, hu⟩ := own1 q e
      rw [nq] at hu
      cases hu
    · rw [gq] at e
      cases e
  walk_at "rf"
  refine h A' q H3 ea fr2 ⟨⟨dx2, ?_⟩, hN2.get k3 (fun x hx z => m1 (by rw [← List.mem_singleton.mp z]; exact hx)), hT2.get k3 (fun x hx z => m2 (by rw [← List.mem_singleton.mp z]; exact hx)), nd2⟩ (hE2.get k3 fun z => qn (by rw [List.mem_singleton.mp z]; exact List.mem_cons_self ..)) nq qn ?_
  · show H3 A'.a = some (HO.ins _ _ (fs_BencodeScanner (.int (((scTake s b).2.2.pl + 1 : Nat) : Int)) _ _ _))
    have e : (((scTake s b).2.2.pl + 1 : Nat) : Int) = ((scTake s b).2.2.pl : Int) + 1 := by omega
    rw [e, ea]
    exact hA3
  · refine k3.ch (fun x hx => ?_) (k2.ch (fun x hx => ?_) (Ch.same s1 Ch.refl))
    · rw [List.mem_singleton.mp hx, ea]
      exact .inl (List.mem_cons_self ..)
    · rcases List.mem_cons.mp hx with e | e
      · rw [e]; exact .inr nq
      · exact .inl e
end

section
variable {P : Program} {w : World} {K : PySem.W.Frag} {mg : Str → Option Value} {base : Heap} {f : Addr} {fd : FuncData}
theorem ok_BencodeScanner__end_token (F : FunD K "_end_token" "BencodeScanner._end_token" (defArgs s_BencodeScanner__end_token) (defBody s_BencodeScanner__end_token) (defScope s_BencodeScanner__end_token) [] [] (meAd "BencodeScanner" "_end_token" K) fd) (nb : Nm K mg) (m_Counted_leaf : Met P w K mg base 1 (C_Counted K) "leaf" (sp_Counted_leaf K) []) (m_BencodeNumber_leaf : Met P w K mg base 3 (C_BencodeNumber K) "leaf" (sp_BencodeNumber_leaf K) []) (m_BencodeKey_leaf : Met P w K mg base 1 (C_BencodeKey K) "leaf" (sp_BencodeKey_leaf K) []) (m_Nest_note_key : Met P w K mg base 1 (C_Nest K) "note_key" (sp_Nest_note_key K) []) (m_BencodeScanner__end_value : Met P w K mg base 2 (C_BencodeScanner K) "_end_value" (sp_BencodeScanner__end_value K) []) : Met P w K mg base 4 (C_BencodeScanner K) "_end_token" (sp_BencodeScanner__end_token K) [] := by
  refine metD F nb.cl_BencodeScanner nb.me_BencodeScanner__end_token sc_BencodeScanner__end_token (fun _ _ _ _ _ _ us hl => match us, hl with | [_, _], _ => rfl) len2 (fun cdv A outer s H vs Q E hr h => ⟨_, (pss_cut (ps_set (i := 2) sc_BencodeScanner__end_token.nd rfl (Or.inl rfl) (pe_alt (pe_mt0 m_Counted_leaf hr (by decide) (pe_fld (pv 0) rfl)) (pe_alt (pe_mt0 m_BencodeNumber_leaf hr (by decide) (pe_fld (pv 0) rfl)) (pe_mt0 m_BencodeKey_leaf hr (by decide) (pe_fld (pv 0) rfl)))))
    (pss_cons (ps_fld (pv 0) pe_non rfl)
    (pss_cons (ps_if (pt_cmpR op_ne (pe_fld (pv 0) rfl) pe_str (nomark _))
    (pss_cons (ps_expr (pe_bm PySem.F.plainAttrs_list PySem.F.slot_list_append PySem.F.type_list_append mt_append (pv 1) (pa_cons (pe_tupE (pa_cons pe_str (pa_cons (pv 2) pa_nil))) pa_nil)))
    (pss_cons (ps_expr (pe_mt0 m_BencodeScanner__end_value hr (by decide) (pv 0)))
    (pss_one (ps_ret pe_bl))))
    pss_nil)
    (pss_cons (ps_expr (pe_bm PySem.F.plainAttrs_list PySem.F.slot_list_append PySem.F.type_list_append mt_append (pv 1) (pa_cons (pe_tupE (pa_cons pe_str (pa_cons (pe_ix ix_tup (pv 2) pe_int (fun _ _ => rfl)) pa_nil))) pa_nil)))
    (pss_cons (ps_fld (pv 0) pe_str rfl)
    (pss_one (ps_ret (pe_mt m_Nest_note_key hr (by decide) (pe_fld (pv 0) rfl) (pa_cons (pe_ix ix_tup (pv 2) pe_int (fun _ _ => rfl)) pa_nil))))))))), ?_⟩)
  obtain ⟨_, _, rfl, A, s, q, es, rfl, rfl, hS, hW, hno, hE, hes, qn, h⟩ := h
  obtain ⟨⟨dx, hA⟩, hN, hT, nd⟩ := id hS
  obtain ⟨vs, hq, tp⟩ := id hE
  obtain ⟨n1, n2, n3, n4⟩ := sca_nd nd
  obtain ⟨⟨dn, hn⟩, hL, hV, hD⟩ := id hN
  obtain ⟨w2, w3, w4, w5⟩ := hW
  have qa : q ≠ A.a := fun e => qn (by rw [e]; exact List.mem_cons_self ..)
  have qns : q ∉ A.ns := fun e => qn (List.mem_cons_of_mem _ (List.mem_append_left _ e))
  have qt : q ∉ A.t.own := fun e => qn (List.mem_cons_of_mem _ (List.mem_append_right _ e))
  have nd0 : ({ A with t := .no } : ScA).own.Nodup := by
    unfold ScA.own at nd ⊢
    rw [List.nodup_cons, List.nodup_append] at nd
    rw [List.nodup_cons]
    refine ⟨fun z => ?_, ?_⟩
    · rcases List.mem_append.mp z with z | z
      · exact nd.1 (List.mem_append_left _ z)
      · exact absurd z (by simp [TkA.own])
    · show (A.ns ++ []).Nodup
      rw [List.append_nil]
      exact nd.2.1
  have sub0 : ∀ x ∈ ({ A with t := .no } : ScA).own, x ∈ A.own := fun x hx => by
    rcases List.mem_cons.mp hx with e | hx
    · rw [e]; exact List.mem_cons_self ..
    rcases List.mem_append.mp hx with hx | hx
    · exact List.mem_cons_of_mem _ (List.mem_append_left _ hx)
    · simp [TkA.own] at hx
  have dT := hT
  walk_at "rg"
  refine r_cut (fun σ H1 => ∃ lf : V, σ = [some (.ref A.a), some (.ref q), some lf] ∧ Same H H1 ∧ ((s.wt ≠ "key" ∧ ∃ k r, scEndToken s = (true, [.lf k r], scEndValue { s with tk := .no }) ∧ Tp H1 lf (.tuple (.str k :: r))) ∨
    (s.wt = "key" ∧ ∃ k, s.tk = .key k ∧ Tp H1 lf (.tuple [.str "text", kd k.u.ps])))) ?_ ?_
  · walk_at "rf"
    cases hk : s.tk with
    | no => exact absurd hk hno
    | num n =>
      have hw : s.wt ≠ "key" := by
        unfold scWant at w2
        rw [hk] at w2
        exact w2
      have es : scEndToken s = (true, [.lf "number" [.int (bnPair n).1, .int (bnPair n).2]], scEndValue { s with tk := .no }) := by
        unfold scEndToken
        rw [hk]
      rw [hk] at hT
      cases hAt : A.t with
      | no => rw [hAt] at hT; exact hT.elim
      | cnt c cl => rw [hAt] at hT; exact hT.elim
      | key a c cl u ul => rw [hAt] at hT; exact hT.elim
      | num a b =>
        rw [hAt] at hT
        have hT : BnAt K H a b n := hT
        obtain ⟨dk, hka, _⟩ := id hT
        refine .inr (.inl ?_)
        rw [hAt] at hA
        have hA : H A.a = some (.ins (C_BencodeScanner K) dx (fs_BencodeScanner (.int s.pl) (.str s.wt) (.ref A.n) (.ref a))) := hA
        walk_at "rf"
        exact ⟨_, rfl, a, b, n, rfl, hT, fun p H1 tp s1 => ⟨p, rfl, s1, .inl ⟨hw, _, _, es, tp⟩⟩⟩
    | cnt n =>
      have hw : s.wt ≠ "key" := by
        unfold scWant at w2
        rw [hk] at w2
        exact w2
      have es : scEndToken s = (true, [.lf "bytes" [kd n.os]], scEndValue { s with tk := .no }) := by
        unfold scEndToken
        rw [hk]
      rw [hk] at hT
      cases hAt : A.t with
      | no => rw [hAt] at hT; exact hT.elim
      | num c cl => rw [hAt] at hT; exact hT.elim
      | key a c cl u ul => rw [hAt] at hT; exact hT.elim
      | cnt a b =>
        rw [hAt] at hT
        have hT : CtAt K H a b n := hT
        obtain ⟨dk, hka, _⟩ := id hT
        refine .inl ?_
        rw [hAt] at hA
        have hA : H A.a = some (.ins (C_BencodeScanner K) dx (fs_BencodeScanner (.int s.pl) (.str s.wt) (.ref A.n) (.ref a))) := hA
        walk_at "rf"
        exact ⟨_, rfl, a, b, n, rfl, hT, fun p H1 tp s1 => ⟨p, rfl, s1, .inl ⟨hw, _, _, es, tp⟩⟩⟩
    | key n =>
      have hw : s.wt = "key" := by
        unfold scWant at w2
        rw [hk] at w2
        exact w2
      rw [hk] at hT
      cases hAt : A.t with
      | no => rw [hAt] at hT; exact hT.elim
      | num c cl => rw [hAt] at hT; exact hT.elim
      | cnt c cl => rw [hAt] at hT; exact hT.elim
      | key a c cl u ul =>
        rw [hAt] at hT
        have hT : BkAt K H a c cl u ul n := hT
        obtain ⟨dk, hka, _⟩ := id hT
        refine .inr (.inr ?_)
        rw [hAt] at hA
        have hA : H A.a = some (.ins (C_BencodeScanner K) dx (fs_BencodeScanner (.int s.pl) (.str s.wt) (.ref A.n) (.ref a))) := hA
        walk_at "rf"
        exact ⟨_, rfl, a, c, cl, u, ul, n, rfl, hT, fun p H1 tp s1 => ⟨p, rfl, s1, .inr ⟨hw, n, rfl, tp⟩⟩⟩
  · rintro σ H1 ⟨lf, rfl, s1, hlf⟩
    have hA1 := s1 _ _ hA
    have hq1 := s1 _ _ hq
    walk_at "rf"
    walk_at "fs"
    intro H2 hA2 f2
    have k12 : Ch [A.a] H1 H2 := by walk_at "ch"
    have k2 : Ch [A.a] H H2 := by walk_at "ch"
    have hN2 := hN.get k2 fun x hx z => n1 (by rw [← List.mem_singleton.mp z]; exact hx)
    have hq2 := k2.get (x := q) (by simp [qa]) hq
    obtain ⟨⟨dn2, hn2⟩, hL2, hV2, hD2⟩ := id hN2
    walk_at "rf"
    refine r_iten (fun c => ?_) (fun c => ?_)
    · obtain ⟨hw, k, r, eT, tlf⟩ := hlf.resolve_right fun z => c z.1
      rw [eT] at h
      have tlf2 := Tp.tk k12.tk _ _ tlf
      walk_at "rf"
      refine ⟨tyL hq2, ?_⟩
      walk_at "rf"
      refine ⟨by show 2 ≤ sizeLine; decide, fun T H3 nT gT s3 => ?_⟩
      walk_at "rf"
      refine r_appE (s3 _ _ hq2) (by rw [evl_len tp]; exact small1000 (by omega)) fun H4 hq4 f4 => ?_
      have k24 : Ch [q] H2 H4 := by walk_at "ch"
      have e4 : EvL H4 q (es ++ [.lf k r]) := ev_add (TpAll.tk (k2.tk.trans (Same.tk s3)) _ _ tp) (.tup gT (.cons (.str _) (.cons (Tp.tk (Same.tk s3) _ _ tlf2) .nil))) hq4 (fun b xs h => (f4.1 b fun q => by rw [q] at h; exact f4.2 xs h).trans h)
      have hA4 := k24.get (x := A.a) (by simp [Ne.symm qa]) hA2
      have hN4 := hN2.get k24 fun x hx z => qns (by rw [← List.mem_singleton.mp z]; exact hx)
      walk_at "rf"
      refine ⟨_, rfl, { A with t := .no }, { s with tk := .no }, rfl, ⟨⟨dx, hA4⟩, hN4, trivial, nd0⟩, by show s.lv.length ≤ 1000; omega, fun H5 hS5 k5 => ?_⟩
      walk_at "rf"
      refine h { A with t := .no } H5 rfl (fun x hx => .inl (sub0 x hx)) hS5 (e4.get k5 (by simp [qa])) ?_
      exact k5.ch (by simp [ScA.own]) (k24.ch (by simp) (k2.mono (by simp [ScA.own])))
    · obtain ⟨hw, k, hk, tlf⟩ := hlf.resolve_left fun z => z.1 c
      have eT : scEndToken s = (scFresh s.lv k.u.ps, [.ky k.u.ps], { s with tk := .no, wt := "entry", lv := scNote s.lv k.u.ps }) := by
        unfold scEndToken
        rw [hk]
      rw [eT] at h
      have tlf2 := Tp.tk k12.tk _ _ tlf
      obtain ⟨b, xs, rfl, hb, hxs⟩ := tp_tup tlf2
      obtain ⟨y1, y2, rfl, t1, t2⟩ : ∃ y1 y2, xs = [y1, y2] ∧ Tp H2 y1 (.str "text") ∧ Tp H2 y2 (kd k.u.ps) := by
        cases hxs with
        | cons h1 r => cases r with
          | cons h2 r => cases r with
            | nil => exact ⟨_, _, rfl, h1, h2⟩
      obtain ⟨kb, rfl, hkb⟩ := tp_kdB t2
      walk_at "rf"
      refine ⟨tyL hq2, ?_⟩
      walk_at "rf"
      refine r_ixT (SqT.of hb) rfl ?_
      walk_at "rf"
      refine ⟨by show 2 ≤ sizeLine; decide, fun T H3 nT gT s3 => ?_⟩
      walk_at "rf"
      refine r_appE (s3 _ _ hq2) (by rw [evl_len tp]; exact small1000 (by omega)) fun H4 hq4 f4 => ?_
      have k24 : Ch [q] H2 H4 := by walk_at "ch"
      have e4 : EvL H4 q (es ++ [.ky k.u.ps]) := ev_add (TpAll.tk (k2.tk.trans (Same.tk s3)) _ _ tp) (.tup gT (.cons (.str _) (.cons (Tp.tk (Same.tk s3) _ _ t2) .nil))) hq4 (fun b xs h => (f4.1 b fun q => by rw [q] at h; exact f4.2 xs h).trans h)
      have hA4 := k24.get (x := A.a) (by simp [Ne.symm qa]) hA2
      have hN4 := hN2.get k24 fun x hx z => qns (by rw [← List.mem_singleton.mp z]; exact hx)
      walk_at "rf"
      walk_at "fs"
      intro H5 hA5 f5
      have k45 : Ch [A.a] H4 H5 := by walk_at "ch"
      have hN5 := hN4.get k45 fun x hx z => n1 (by rw [← List.mem_singleton.mp z]; exact hx)
      have hb5 := k45.tup (k24.tup hb)
      have hkb5 := k45.tup (k24.tup hkb)
      have e5 := e4.get k45 (by simp [qa])
      obtain ⟨⟨dn5, hn5⟩, hL5, hV5, hD5⟩ := id hN5
      have k5 : Ch (q :: A.own) H H5 := k45.ch (by simp [ScA.own]) (k24.ch (by simp) (k2.mono (by simp [ScA.own])))
      walk_at "rf"
      refine r_ixT (SqT.of hb5) rfl ?_
      walk_at "rf"
      cases hlv : s.lv with
      | nil => exact absurd hlv (w3 hw)
      | cons l r =>
        rw [hlv] at hN5 hV5
        obtain ⟨d, ds, ed⟩ := lv_cons hV5
        rw [hlv] at h
        rw [ed] at hN5
        refine ⟨_, _, rfl, A.n, A.ll, d, ds, l, r, kb, k.u.ps, rfl, rfl, hkb5, hN5, w5 l (by rw [hlv]; simp), fun cm => ?_, fun cm H6 hN6 k6 => ?_⟩
        · have e1 : scFresh (l :: r) k.u.ps = false := by simp [scFresh, cm]
          have e2 : scNote (l :: r) k.u.ps = l :: r := by simp [scNote, cm]
          rw [e1, e2] at h
          exact h { A with t := .no } H5 rfl (fun x hx => .inl (sub0 x hx)) ⟨⟨dx, hA5⟩, by rw [ed]; exact hN5, trivial, nd0⟩ e5 k5
        · have e1 : scFresh (l :: r) k.u.ps = true := by simp [scFresh, cm]
          have e2 : scNote (l :: r) k.u.ps = ⟨l.m, l.ks ++ [k.u.ps]⟩ :: r := by simp [scNote, cm]
          rw [e1, e2] at h
          rw [← ed] at hN6 k6
          exact h { A with t := .no } H6 rfl (fun x hx => .inl (sub0 x hx)) ⟨⟨dx, k6.get n1 hA5⟩, hN6, trivial, nd0⟩ (e5.get k6 qns) (k6.ch (fun x hx => .inl (List.mem_cons_of_mem _ (List.mem_cons_of_mem _ (List.mem_append_left _ hx)))) k5)
end

section
variable {P : Program} {w : World} {K : PySem.W.Frag} {mg : Str → Option Value} {base : Heap} {f : Addr} {fd : FuncData}
theorem d_nest {H : Hp} {R : Addr → Hp → Prop} {E : XK} (h : ∀ a l H', H a = none → H l = none → NsAt K H' a l [] [] → Same H H' → R a H') : ∀ x dx, H x = none → H dx = none → dx ≠ x → sp_Nest___init__ K (.ref x :: ([] ++ [])) (upd (upd H dx (.own x)) x (.ins (C_Nest K) dx [])) (fun v H2 => v = .non ∧ R x H2) E := fun a dx ha hd hne =>
  ⟨_, rfl, a, dx, rfl, upd_same, fun q H' nq hN c => ⟨rfl, h a q H' ha (mk_free nq) hN (mk_same ha hd c)⟩⟩
theorem d_bscan {H : Hp} {R : Addr → Hp → Prop} {E : XK} (h : ∀ A H', (∀ x ∈ A.own, H x = none) → ScAt K H' A sc0 → Same H H' → R A.a H') : ∀ x dx, H x = none → H dx = none → dx ≠ x → sp_BencodeScanner___init__ K (.ref x :: ([] ++ [])) (upd (upd H dx (.own x)) x (.ins (C_BencodeScanner K) dx [])) (fun v H2 => v = .non ∧ R x H2) E := fun a dx ha hd hne =>
  ⟨_, rfl, a, dx, rfl, upd_same, fun A H' ea fr hS c => ⟨rfl, by
    rw [← ea]
    refine h A H' (fun x hx => ?_) hS (mk_same ha hd c)
    rcases fr x hx with e | e
    · rw [e]; exact ha
    · exact mk_free e⟩⟩
theorem ok_BencodeScanner___init__ (F : FunD K "__init__" "BencodeScanner.__init__" (defArgs s_BencodeScanner___init__) (defBody s_BencodeScanner___init__) (defScope s_BencodeScanner___init__) [] [] (meAd "BencodeScanner" "__init__" K) fd) (nb : Nm K mg) (k_Nest : Mak P w K mg base 1 "Nest" (C_Nest K) (sp_Nest___init__ K) []) : Mak P w K mg base 3 "BencodeScanner" (C_BencodeScanner K) (sp_BencodeScanner___init__ K) [] := by
  refine makD F nb.mk_BencodeScanner nb.g_BencodeScanner sc_BencodeScanner___init__ (fun _ _ _ _ _ _ us hl => match us, hl with | [_], _ => rfl) len1 (fun cdv A outer s H vs Q E hr h => ⟨_, (pss_cons (ps_fld (pv 0) pe_int rfl)
    (pss_cons (ps_fld (pv 0) pe_str rfl)
    (pss_cons (ps_fld (pv 0) (pe_mk0 k_Nest hr (by decide) rfl) rfl)
    (pss_one (ps_fld (pv 0) pe_non rfl))))), ?_⟩)
  obtain ⟨_, rfl, a, dx, rfl, hA, h⟩ := h
  walk_at "rf"
  refine r_fsetE hA nb.cl_BencodeScanner nb.na_BencodeScanner__place (by decide) (in_BencodeScanner__place) fun H1 hA1 f1 => ?_
  walk_at "rf"
  refine r_fsetE hA1 nb.cl_BencodeScanner nb.na_BencodeScanner__wanted (by simp) (in_BencodeScanner__wanted) fun H2 hA2 f2 => ?_
  walk_at "rf"
  refine d_nest fun n l H3 nn nl hN s3 => ?_
  have an : a ≠ n := Same.ne nn hA2
  have al : a ≠ l := Same.ne nl hA2
  walk_at "rf"
  refine r_fsetE (s3 _ _ hA2) nb.cl_BencodeScanner nb.na_BencodeScanner__nest (by simp) (in_BencodeScanner__nest) fun H4 hA4 f4 => ?_
  walk_at "rf"
  refine r_fsetE hA4 nb.cl_BencodeScanner nb.na_BencodeScanner__token (by simp) (in_BencodeScanner__token) fun H5 hA5 f5 => ?_
  have k35 : Ch [a] H3 H5 := by walk_at "ch"
  have fr : ∀ x, H2 x = none → x ≠ a → H x = none := fun x hx hn => by
    rw [← f1.1 x hn, ← f2.1 x hn]
    exact hx
  have hnl := hN.2.2.2
  unfold nsOwn at hnl
  refine h ⟨a, n, l, [], .no⟩ H5 rfl (fun x hx => ?_) ⟨⟨dx, hA5⟩, hN.get k35 (fun x hx z => ?_), trivial, ?_⟩ (by walk_at "ch")
  · have hx : x ∈ [a, n, l] := by simpa [ScA.own, ScA.ns, nsOwn, TkA.own] using hx
    simp at hx
    rcases hx with e | e | e
    · exact .inl e
    · exact .inr (by rw [e]; exact fr n nn (Ne.symm an))
    · exact .inr (by rw [e]; exact fr l nl (Ne.symm al))
  · have z := List.mem_singleton.mp z
    rw [z] at hx
    simp [nsOwn, an, al] at hx
  · simp [ScA.own, ScA.ns, nsOwn, TkA.own, an, al] at hnl ⊢
    exact hnl
theorem ok_BencodeScanner__take (F : FunD K "_take" "BencodeScanner._take" (defArgs s_BencodeScanner__take) (defBody s_BencodeScanner__take) (defScope s_BencodeScanner__take) [] [] (meAd "BencodeScanner" "_take" K) fd) (nb : Nm K mg) (m_Counted_take : Met P w K mg base 3 (C_Counted K) "take" (sp_Counted_take K) []) (m_BencodeNumber_take : Met P w K mg base 3 (C_BencodeNumber K) "take" (sp_BencodeNumber_take K) []) (m_BencodeKey_take : Met P w K mg base 4 (C_BencodeKey K) "take" (sp_BencodeKey_take K) []) (m_BencodeScanner__end_token : Met P w K mg base 4 (C_BencodeScanner K) "_end_token" (sp_BencodeScanner__end_token K) []) (m_BencodeScanner__take_mark : Met P w K mg base 6 (C_BencodeScanner K) "_take_mark" (sp_BencodeScanner__take_mark K) []) : Met P w K mg base 7 (C_BencodeScanner K) "_take" (sp_BencodeScanner__take K) [] := by
  refine metD F nb.cl_BencodeScanner nb.me_BencodeScanner__take sc_BencodeScanner__take (fun _ _ _ _ _ _ us hl => match us, hl with | [_, _, _], _ => rfl) len3 (fun cdv A outer s H vs Q E hr h => ⟨_, (pss_cons (ps_if (pt_cmpR op_isN (pe_fld (pv 0) rfl) pe_non (nomark _))
    (pss_one (ps_ret (pe_mt m_BencodeScanner__take_mark hr (by decide) (pv 0) (pa_cons (pv 1) (pa_cons (pv 2) pa_nil)))))
    pss_nil)
    (pss_cut (ps_if (pt_not (pt_val (pe_alt (pe_mt m_Counted_take hr (by decide) (pe_fld (pv 0) rfl) (pa_cons (pv 1) pa_nil)) (pe_alt (pe_mt m_BencodeNumber_take hr (by decide) (pe_fld (pv 0) rfl) (pa_cons (pv 1) pa_nil)) (pe_mt m_BencodeKey_take hr (by decide) (pe_fld (pv 0) rfl) (pa_cons (pv 1) pa_nil))))))
    (pss_one (ps_ret pe_bl))
    pss_nil)
    (pss_one (ps_ret (pe_or (pe_not (pe_fld (pe_fld (pv 0) rfl) rfl)) (pe_one (pe_mt m_BencodeScanner__end_token hr (by decide) (pv 0) (pa_cons (pv 2) pa_nil)))))))), ?_⟩)
  obtain ⟨_, _, _, rfl, A, s, b, q, es, rfl, rfl, rfl, hS, hW, hE, hes, qn, h⟩ := h
  obtain ⟨⟨dx, hA⟩, hN, hT, nd⟩ := id hS
  obtain ⟨vs, hq, tp⟩ := id hE
  obtain ⟨n1, n2, n3, n4⟩ := sca_nd nd
  have hW' := hW
  obtain ⟨w1, w2, w3, w4, w5⟩ := hW
  have qt : q ∉ A.t.own := fun e => qn (List.mem_cons_of_mem _ (List.mem_append_right _ e))
  unfold scTake at h
  by_cases hno : s.tk = .no
  · rw [hno] at h hT
    have hAt : A.t = .no := by
      cases e : A.t <;> rw [e] at hT <;> first | rfl | exact hT.elim
    rw [hAt] at hA
    have hA : H A.a = some (.ins (C_BencodeScanner K) dx (fs_BencodeScanner (.int s.pl) (.str s.wt) (.ref A.n) .non)) := hA
    walk_at "rf"
    refine r_itep rfl ?_
    walk_at "rf"
    exact ⟨_, _, _, rfl, A, s, b, q, es, rfl, rfl, rfl, hS, hW', hno, hE, hes, qn, h⟩
  have h : ScEv K H A q es (scGo s b) Q := by
    cases hk : s.tk with
    | no => exact absurd hk hno
    | num n => rw [hk] at h; exact h
    | key n => rw [hk] at h; exact h
    | cnt n => rw [hk] at h; exact h
  unfold scGo at h
  obtain ⟨t, ht⟩ : ∃ t, A.t.v = .ref t := by
    cases e : A.t with
    | no =>
      rw [e] at hT
      cases hk : s.tk with
      | no => exact absurd hk hno
      | num n => rw [hk] at hT; exact hT.elim
      | key n => rw [hk] at hT; exact hT.elim
      | cnt n => rw [hk] at hT; exact hT.elim
    | num a q => exact ⟨a, rfl⟩
    | key a c cl u ul => exact ⟨a, rfl⟩
    | cnt a q => exact ⟨a, rfl⟩
  rw [ht] at hA
  /- what the token's own step leaves -/
  have fin : ∀ H1, TkAt K H1 A.t (tokTake s.tk b).2 → Ch A.t.own H H1 → ScAt K H1 A { s with tk := (tokTake s.tk b).2 } ∧ EvL H1 q es ∧ Ch (q :: A.own) H H1 := fun H1 hk1 k1 => by
    refine ⟨⟨⟨dx, ?_⟩, hN.get k1 n3, hk1, nd⟩, hE.get k1 qt, k1.mono fun x hx => List.mem_cons_of_mem _ (List.mem_cons_of_mem _ (List.mem_append_right _ hx))⟩
    rw [ht]
    exact k1.get n2 hA
  have wt : scWant { s with tk := (tokTake s.tk b).2 } := by
    unfold scWant at w2 ⊢
    cases hk : s.tk <;> rw [hk] at w2 <;> exact w2
  walk_at "rf"
  refine r_iteN (fun e => by cases e) ?_
  walk_at "rg"
  refine r_cut (fun σ H1 => (tokTake s.tk b).1 = true ∧ TkAt K H1 A.t (tokTake s.tk b).2 ∧ Ch A.t.own H H1 ∧ σ = [some (.ref A.a), some (.int b), some (.ref q)]) ?_ ?_
  · have out : ∀ H1, TkAt K H1 A.t (tokTake s.tk b).2 → Ch A.t.own H H1 → (tokTake s.tk b).1 = false → Q (.bl false) H1 := fun H1 hk1 k1 e => by
      rw [if_pos e] at h
      obtain ⟨x1, x2, x3⟩ := fin H1 hk1 k1
      exact h A H1 rfl (fun x hx => .inl hx) x1 (by rw [List.append_nil]; exact x2) x3
    walk_at "rf"
    cases hk : s.tk with
    | no => exact absurd hk hno
    | num n =>
      rw [hk] at hT out
      cases hAt : A.t with
      | no => rw [hAt] at hT; exact hT.elim
      | cnt c cl => rw [hAt] at hT; exact hT.elim
      | key a c cl u ul => rw [hAt] at hT; exact hT.elim
      | num a b2 =>
        rw [hAt] at hT ht out
        have ht : a = t := V.ref.inj ht
        subst ht
        have hT : BnAt K H a b2 n := hT
        obtain ⟨dk, hka, _⟩ := id hT
        refine .inr (.inl ?_)
        walk_at "rf"
        refine ⟨_, _, rfl, a, b2, n, b, rfl, rfl, hT, fun H1 hk1 k1 => ?_⟩
        refine ⟨_, rfl, ?_⟩
        cases e : (bnTake n b).1 with
        | false =>
          walk_at "rf"
          exact out H1 hk1 k1 e
        | true =>
          walk_at "rf"
          exact ⟨e, hk1, k1, rfl⟩
    | cnt n =>
      rw [hk] at hT out w1
      cases hAt : A.t with
      | no => rw [hAt] at hT; exact hT.elim
      | num c cl => rw [hAt] at hT; exact hT.elim
      | key a c cl u ul => rw [hAt] at hT; exact hT.elim
      | cnt a b2 =>
        rw [hAt] at hT ht out
        have ht : a = t := V.ref.inj ht
        subst ht
        have hT : CtAt K H a b2 n := hT
        obtain ⟨dk, hka, _⟩ := id hT
        refine .inl ?_
        walk_at "rf"
        refine ⟨_, _, rfl, a, b2, n, b, rfl, rfl, hT, w1.1, w1.2, fun H1 hk1 k1 => ?_⟩
        refine ⟨_, rfl, ?_⟩
        cases e : (ctTake n b).1 with
        | false =>
          walk_at "rf"
          exact out H1 hk1 k1 e
        | true =>
          walk_at "rf"
          exact ⟨e, hk1, k1, rfl⟩
    | key n =>
      rw [hk] at hT out w1
      cases hAt : A.t with
      | no => rw [hAt] at hT; exact hT.elim
      | num c cl => rw [hAt] at hT; exact hT.elim
      | cnt c cl => rw [hAt] at hT; exact hT.elim
      | key a c cl u ul =>
        rw [hAt] at hT ht out
        have ht : a = t := V.ref.inj ht
        subst ht
        have hT : BkAt K H a c cl u ul n := hT
        obtain ⟨dk, hka, _⟩ := id hT
        refine .inr (.inr ?_)
        walk_at "rf"
        refine ⟨_, _, rfl, a, c, cl, u, ul, n, b, rfl, rfl, hT, w1, fun H1 hk1 k1 => ?_⟩
        refine ⟨_, rfl, ?_⟩
        cases e : (bkTake n b).1 with
        | false =>
          walk_at "rf"
          exact out H1 hk1 k1 e
        | true =>
          walk_at "rf"
          exact ⟨e, hk1, k1, rfl⟩
  · rintro σ H1 ⟨e, hk1, k1, rfl⟩
    rw [if_neg (by rw [e]; decide)] at h
    obtain ⟨hS1, hE1, k1'⟩ := fin H1 hk1 k1
    have hA1 := k1.get n2 hA
    have hdone : ∃ C dt fs, H1 t = some (.ins C dt fs) ∧ Cls K C ∧ NoAttr K C "is_done" ∧ fs.lookup ("is_done" : Str) = some (V.bl (tokDone (tokTake s.tk b).2)) := by
      cases hk : s.tk with
      | no => exact absurd hk hno
      | num n =>
        rw [hk] at hk1
        cases hAt : A.t with
        | no => rw [hAt] at hk1; exact hk1.elim
        | cnt c cl => rw [hAt] at hk1; exact hk1.elim
        | key a c cl u ul => rw [hAt] at hk1; exact hk1.elim
        | num a b2 =>
          rw [hAt] at hk1 ht
          have ht : a = t := V.ref.inj ht
          subst ht
          obtain ⟨dk, hka, _⟩ := id (show BnAt K H1 a b2 (bnTake n b).2 from hk1)
          exact ⟨_, _, _, hka, nb.cl_BencodeNumber, nb.na_BencodeNumber_is_done, lk_BencodeNumber_is_done⟩
      | key n =>
        rw [hk] at hk1
        cases hAt : A.t with
        | no => rw [hAt] at hk1; exact hk1.elim
        | cnt c cl => rw [hAt] at hk1; exact hk1.elim
        | num c cl => rw [hAt] at hk1; exact hk1.elim
        | key a c cl u ul =>
          rw [hAt] at hk1 ht
          have ht : a = t := V.ref.inj ht
          subst ht
          obtain ⟨dk, hka, _⟩ := id (show BkAt K H1 a c cl u ul (bkTake n b).2 from hk1)
          exact ⟨_, _, _, hka, nb.cl_BencodeKey, nb.na_BencodeKey_is_done, lk_BencodeKey_is_done⟩
      | cnt n =>
        rw [hk] at hk1
        cases hAt : A.t with
        | no => rw [hAt] at hk1; exact hk1.elim
        | num c cl => rw [hAt] at hk1; exact hk1.elim
        | key a c cl u ul => rw [hAt] at hk1; exact hk1.elim
        | cnt a b2 =>
          rw [hAt] at hk1 ht
          have ht : a = t := V.ref.inj ht
          subst ht
          obtain ⟨dk, hka, _⟩ := id (show CtAt K H1 a b2 (ctTake n b).2 from hk1)
          exact ⟨_, _, _, hka, nb.cl_Counted, nb.na_Counted_is_done, lk_Counted_is_done⟩
    obtain ⟨C, dt, fs, ht1, cl1, na1, lk1⟩ := hdone
    walk_at "rf"
    refine ⟨t, C, dt, fs, _, rfl, ht1, cl1, na1, lk1, ?_⟩
    refine ⟨_, rfl, ?_⟩
    cases hd : tokDone (tokTake s.tk b).2 with
    | false =>
      rw [if_pos hd] at h
      walk_at "rf"
      exact h A H1 rfl (fun x hx => .inl hx) hS1 (by rw [List.append_nil]; exact hE1) k1'
    | true =>
      rw [if_neg (by rw [hd]; decide)] at h
      walk_at "rf"
      have hno1 : (tokTake s.tk b).2 ≠ .no := by
        cases hk : s.tk with
        | no => exact absurd hk hno
        | num n => exact fun e => by cases e
        | key n => exact fun e => by cases e
        | cnt n => exact fun e => by cases e
      refine ⟨_, _, rfl, A, { s with tk := (tokTake s.tk b).2 }, q, es, rfl, rfl, hS1, ⟨wt, w3, w4, w5⟩, hno1, hE1, hes, qn, ?_⟩
      · intro A' H2 ea fr hS2 hE2 k2
        exact h A' H2 ea (fun x hx => (fr x hx).elim .inl fun z => k1'.fresh z |>.elim (fun q1 => by
          rcases List.mem_cons.mp q1 with e | e
          · rw [e] at z
            obtain ⟨vs1, hv1, _⟩ := hE1
            rw [hv1] at z
            cases z
          · exact .inl e) .inr) hS2 hE2 (k1'.trans k2)
theorem ok_BencodeScanner__take_mark (F : FunD K "_take_mark" "BencodeScanner._take_mark" (defArgs s_BencodeScanner__take_mark) (defBody s_BencodeScanner__take_mark) (defScope s_BencodeScanner__take_mark) [] [] (meAd "BencodeScanner" "_take_mark" K) fd) (nb : Nm K mg) (k_Counted : Mak P w K mg base 1 "Counted" (C_Counted K) (sp_Counted___init__ K) []) (k_BencodeNumber : Mak P w K mg base 3 "BencodeNumber" (C_BencodeNumber K) (sp_BencodeNumber___init__ K) []) (k_BencodeKey : Mak P w K mg base 3 "BencodeKey" (C_BencodeKey K) (sp_BencodeKey___init__ K) []) (m_BencodeScanner__begin_counted : Met P w K mg base 5 (C_BencodeScanner K) "_begin_counted" (sp_BencodeScanner__begin_counted K) []) (m_BencodeScanner__grow : Met P w K mg base 2 (C_BencodeScanner K) "_grow" (sp_BencodeScanner__grow K) []) (m_BencodeScanner__close : Met P w K mg base 3 (C_BencodeScanner K) "_close" (sp_BencodeScanner__close K) []) : Met P w K mg base 6 (C_BencodeScanner K) "_take_mark" (sp_BencodeScanner__take_mark K) [] := by
  refine metD F nb.cl_BencodeScanner nb.me_BencodeScanner__take_mark sc_BencodeScanner__take_mark (fun _ _ _ _ _ _ us hl => match us, hl with | [_, _, _], _ => rfl) len3 (fun cdv A outer s H vs Q E hr h => ⟨_, (pss_cons (ps_if (pt_cmpR op_eq (pv 1) (pe_gc rfl nb.g_SMALL_E) (nomark _))
    (pss_one (ps_ret (pe_mt m_BencodeScanner__close hr (by decide) (pv 0) (pa_cons (pv 2) pa_nil))))
    pss_nil)
    (pss_cons (ps_if (pt_cmpR op_eq (pe_fld (pv 0) rfl) pe_str (nomark _))
    (pss_one (ps_ret pe_bl))
    pss_nil)
    (pss_cons (ps_if (pt_cmpR op_eq (pe_fld (pv 0) rfl) pe_str (nomark _))
    (pss_one (ps_ret (pe_mt m_BencodeScanner__begin_counted hr (by decide) (pv 0) (pa_cons (pe_mk0 k_BencodeKey hr (by decide) rfl) (pa_cons (pv 1) pa_nil)))))
    pss_nil)
    (pss_cons (ps_if (pt_cmpR op_eq (pv 1) (pe_gc rfl nb.g_SMALL_L) (nomark _))
    (pss_one (ps_ret (pe_mt m_BencodeScanner__grow hr (by decide) (pv 0) (pa_cons pe_str (pa_cons (pv 2) pa_nil)))))
    pss_nil)
    (pss_cons (ps_if (pt_cmpR op_eq (pv 1) (pe_gc rfl nb.g_SMALL_D) (nomark _))
    (pss_one (ps_ret (pe_mt m_BencodeScanner__grow hr (by decide) (pv 0) (pa_cons pe_str (pa_cons (pv 2) pa_nil)))))
    pss_nil)
    (pss_cons (ps_if (pt_cmpR op_eq (pv 1) (pe_gc rfl nb.g_SMALL_I) (nomark _))
    (pss_cons (ps_fld (pv 0) (pe_mk0 k_BencodeNumber hr (by decide) rfl) rfl)
    (pss_one (ps_ret pe_bl)))
    pss_nil)
    (pss_one (ps_ret (pe_mt m_BencodeScanner__begin_counted hr (by decide) (pv 0) (pa_cons (pe_mk0 k_Counted hr (by decide) rfl) (pa_cons (pv 1) pa_nil))))))))))), ?_⟩)
  obtain ⟨_, _, _, rfl, A, s, b, q, es, rfl, rfl, rfl, hS, hW, hno, hE, hes, qn, h⟩ := h
  obtain ⟨⟨dx, hA⟩, hN, hT, nd⟩ := id hS
  obtain ⟨vs, hq, tp⟩ := id hE
  obtain ⟨n1, n2, n3, n4⟩ := sca_nd nd
  obtain ⟨w1, w2, w3, w4, w5⟩ := hW
  have hAt : A.t = .no := by
    rw [hno] at hT
    cases e : A.t <;> rw [e] at hT <;> first | rfl | exact hT.elim
  have qa : q ≠ A.a := fun e => qn (by rw [e]; exact List.mem_cons_self ..)
  have qns : q ∉ A.ns := fun e => qn (List.mem_cons_of_mem _ (List.mem_append_left _ e))
  have ownE : A.own = A.a :: A.ns := by
    unfold ScA.own
    rw [hAt]
    show A.a :: (A.ns ++ []) = _
    rw [List.append_nil]
  have ndn : A.ns.Nodup := by
    unfold ScA.own at nd
    rw [List.nodup_cons, List.nodup_append] at nd
    exact nd.2.1
  unfold scMark at h
  /- a new token -/
  have mk : ∀ (T : TkA) (k : Tok) (H1 : Hp), (∀ x ∈ T.own, H x = none) → T.own.Nodup → TkAt K H1 T k → Same H H1 → (k = .key bk0 ∨ k = .cnt ct0) → ScEv K H A q es (scBegin s k b) Q → sp_BencodeScanner__begin_counted K ([.ref A.a, T.v, .int b] ++ []) H1 Q C8.E0 := fun T k H1 fr ndt hk1 s1 hor hq1 => by
    have k1 : Ch [] H H1 := Ch.same s1 Ch.refl
    have dis : ∀ x ∈ T.own, ∀ y, (∃ u, H y = some u) → x ≠ y := fun x hx y ⟨u, hu⟩ e => by
      rw [e] at hx
      rw [fr y hx] at hu
      cases hu
    have ndT : ({ A with t := T } : ScA).own.Nodup := by
      show (A.a :: (A.ns ++ T.own)).Nodup
      rw [List.nodup_cons, List.nodup_append]
      refine ⟨fun z => ?_, ndn, ndt, fun x hx y hy e => dis y hy x (hN.some x hx) e.symm⟩
      rcases List.mem_append.mp z with z | z
      · exact n1 z
      · exact dis _ z _ ⟨_, hA⟩ rfl
    refine ⟨_, _, _, rfl, A, s, T, k, b, rfl, rfl, rfl, hS.get k1 (by simp), hAt, hk1, ?_, hor, ndT, fun H2 hS2 k2 => ?_⟩
    · rcases hor with rfl | rfl
      · exact ⟨fun z => (by cases z), by show 0 < sizeLine; decide, by show 0 < sizeLine; decide⟩
      · exact ⟨fun z => (by cases z), by show 0 < sizeLine; decide⟩
    · refine hq1 { A with t := T } H2 rfl (fun x hx => ?_) hS2 ?_ ?_
      · rcases List.mem_cons.mp hx with e | hx
        · exact .inl (by rw [e]; exact List.mem_cons_self ..)
        rcases List.mem_append.mp hx with hx | hx
        · exact .inl (List.mem_cons_of_mem _ (List.mem_append_left _ hx))
        · exact .inr (fr x hx)
      · show EvL H2 q (es ++ [])
        rw [List.append_nil]
        refine (hE.get k1 (by simp)).get k2 fun z => ?_
        rcases List.mem_cons.mp z with e | z
        · exact qa e
        · exact dis _ z _ ⟨_, hq⟩ rfl
      · refine k2.ch (fun x hx => ?_) (Ch.same s1 Ch.refl)
        rcases List.mem_cons.mp hx with e | hx
        · exact .inl (by rw [e]; simp [ScA.own])
        · exact .inr (fr x hx)
  walk_at "rf"
  refine r_ite (fun c => ?_) (fun c => ?_)
  · rw [if_pos c] at h
    walk_at "rf"
    exact ⟨_, _, rfl, A, s, q, es, rfl, rfl, hS, w4, hE, hes, qn, h⟩
  rw [if_neg c] at h
  walk_at "rf"
  refine r_ite (fun c => ?_) (fun c => ?_)
  · rw [if_pos c] at h
    walk_at "rf"
    exact h A H rfl (fun x hx => .inl hx) hS (by rw [List.append_nil]; exact hE) Ch.refl
  rw [if_neg c] at h
  walk_at "rf"
  refine r_ite (fun c => ?_) (fun c => ?_)
  · rw [if_pos c] at h
    walk_at "rf"
    refine d_bkey fun a c cl u ul H1 fr hk1 s1 => ?_
    walk_at "rf"
    exact mk (.key a c cl u ul) (.key bk0) H1 fr hk1.choose_spec.2.2.2 hk1 s1 (.inl rfl) h
  rw [if_neg c] at h
  walk_at "rf"
  refine r_ite (fun c => ?_) (fun c => ?_)
  · rw [if_pos c] at h
    walk_at "rf"
    exact ⟨_, _, _, rfl, A, s, false, q, es, rfl, rfl, rfl, hS, w4, hE, hes, qn, h⟩
  rw [if_neg c] at h
  walk_at "rf"
  refine r_ite (fun c => ?_) (fun c => ?_)
  · rw [if_pos c] at h
    walk_at "rf"
    exact ⟨_, _, _, rfl, A, s, true, q, es, rfl, rfl, rfl, hS, w4, hE, hes, qn, h⟩
  rw [if_neg c] at h
  walk_at "rf"
  refine r_ite (fun c => ?_) (fun c => ?_)
  · rw [if_pos c] at h
    walk_at "rf"
    refine d_bnum fun a b2 H1 na nb2 hk1 s1 => ?_
    have hA1 := s1 _ _ hA
    walk_at "rf"
    walk_at "fs"
    intro H2 hA2 f2
    walk_at "rf"
    have ad : A.a ≠ a := Same.ne na hA
    have bd : A.a ≠ b2 := Same.ne nb2 hA
    have k2 : Ch [A.a] H1 H2 := by walk_at "ch"
    have kk : Ch [A.a] H H2 := by walk_at "ch"
    have hT2 := hk1.get k2 (by simp [Ne.symm ad]) (by simp [Ne.symm bd])
    have ab := hk1.choose_spec.2.2
    have dis : ∀ x ∈ [a, b2], ∀ y, (∃ u, H y = some u) → x ≠ y := fun x hx y ⟨u, hu⟩ e => by
      rw [e] at hx
      simp at hx
      rcases hx with e | e
      · rw [e, na] at hu; cases hu
      · rw [e, nb2] at hu; cases hu
    refine h { A with t := .num a b2 } H2 rfl (fun x hx => ?_) ⟨⟨dx, hA2⟩, hN.get kk (fun x hx z => n1 (by rw [← List.mem_singleton.mp z]; exact hx)), hT2, ?_⟩ (by rw [List.append_nil]; exact hE.get kk (by simp [qa])) (kk.mono (by simp [ScA.own]))
    · rcases List.mem_cons.mp hx with e | hx
      · exact .inl (by rw [e]; exact List.mem_cons_self ..)
      rcases List.mem_append.mp hx with hx | hx
      · exact .inl (List.mem_cons_of_mem _ (List.mem_append_left _ hx))
      · simp [TkA.own] at hx
        rcases hx with e | e
        · exact .inr (by rw [e]; exact na)
        · exact .inr (by rw [e]; exact nb2)
    · show (A.a :: (A.ns ++ [a, b2])).Nodup
      rw [List.nodup_cons, List.nodup_append]
      refine ⟨fun z => ?_, ndn, by simp [ab], fun x hx y hy e => dis y hy x (hN.some x hx) e.symm⟩
      rcases List.mem_append.mp z with z | z
      · exact n1 z
      · exact dis _ z _ ⟨_, hA⟩ rfl
  rw [if_neg c] at h
  walk_at "rf"
  refine d_counted fun c cl H1 nc ncl hk1 s1 => ?_
  walk_at "rf"
  exact mk (.cnt c cl) (.cnt ct0) H1 (ms_cons nc (ms_cons ncl ms_nil)) (by simp [TkA.own, hk1.choose_spec.2.2]) hk1 s1 (.inr rfl) h
end

/-! ### what stands in a token on any octets -/
def Oct (os : List Int) : Prop := ∀ c ∈ os, 0 ≤ c ∧ c ≤ 255
theorem oct_nil : Oct [] := fun c h => absurd h (by simp)
theorem Oct.one {os : List Int} {c : Int} (h : Oct os) (l : 0 ≤ c) (r : c ≤ 255) : Oct (os ++ [c]) := fun x hx => by
  rcases List.mem_append.mp hx with q | q
  · exact h x q
  · rw [List.mem_singleton.mp q]
    exact ⟨l, r⟩
theorem len_one {os : List Int} {c : Int} {n : Nat} (h : os.length ≤ n) : (os ++ [c]).length ≤ n + 1 := by
  rw [List.length_append]
  show os.length + 1 ≤ n + 1
  omega
/-- what is wanted ends in a point -/
def U8P : Nat → Int → Int → Int → Prop
  | 0, _, _, _ => True
  | 1, wo, le, mo => ∀ b, le ≤ b → b ≤ mo → Point (wo * 64 + b - 128)
  | k + 1, wo, le, mo => ∀ b, le ≤ b → b ≤ mo → U8P k (wo * 64 + b - 128) 128 191
def U8I (n : Nat) (s : U8) : Prop := s.ps.length ≤ n ∧ (∀ p ∈ s.ps, Point p) ∧ (s.ms > 0 → ∃ k : Nat, s.ms = (k + 1 : Nat) ∧ U8P (k + 1) s.wo s.le s.mo)
theorem u8p_row : ∀ r ∈ rows8, ∀ b, r.f ≤ b → b ≤ r.l → ∃ k : Nat, r.m = (k + 1 : Nat) ∧ U8P (k + 1) (b - mark8 r.m) r.le r.mo := by
  intro r hr b h1 h2
  unfold rows8 at hr
  simp only [List.mem_cons, List.not_mem_nil, or_false] at hr
  unfold mark8
  rcases hr with e | e | e | e | e | e | e | e <;> rw [e] at h1 h2 ⊢ <;> dsimp only at h1 h2 ⊢
  · refine ⟨0, rfl, fun c c1 c2 => ?_⟩
    unfold Point
    rw [if_pos rfl]
    omega
  · refine ⟨1, rfl, fun c c1 c2 d d1 d2 => ?_⟩
    unfold Point
    rw [if_neg (by decide), if_pos rfl]
    omega
  · refine ⟨1, rfl, fun c c1 c2 d d1 d2 => ?_⟩
    unfold Point
    rw [if_neg (by decide), if_pos rfl]
    omega
  · refine ⟨1, rfl, fun c c1 c2 d d1 d2 => ?_⟩
    unfold Point
    rw [if_neg (by decide), if_pos rfl]
    omega
  · refine ⟨1, rfl, fun c c1 c2 d d1 d2 => ?_⟩
    unfold Point
    rw [if_neg (by decide), if_pos rfl]
    omega
  · refine ⟨2, rfl, fun c c1 c2 d d1 d2 e e1 e2 => ?_⟩
    unfold Point
    rw [if_neg (by decide), if_neg (by decide)]
    omega
  · refine ⟨2, rfl, fun c c1 c2 d d1 d2 e e1 e2 => ?_⟩
    unfold Point
    rw [if_neg (by decide), if_neg (by decide)]
    omega
  · refine ⟨2, rfl, fun c c1 c2 d d1 d2 e e1 e2 => ?_⟩
    unfold Point
    rw [if_neg (by decide), if_neg (by decide)]
    omega
theorem u8_take {n : Nat} {s : U8} {o : Int} (h : U8I n s) (o1 : 0 ≤ o) (a : (u8take s o).1 = true) : U8I (n + 1) (u8take s o).2 := by
  obtain ⟨h1, h2, h3⟩ := h
  have one : ∀ {p : Int}, Point p → ∀ x ∈ s.ps ++ [p], Point x := fun {p} hp x hx => by
    rcases List.mem_append.mp hx with q | q
    · exact h2 x q
    · rw [List.mem_singleton.mp q]
      exact hp
  unfold u8take at a ⊢
  by_cases c : s.ms > 0
  · rw [if_pos c] at a ⊢
    obtain ⟨k, e, hk⟩ := h3 c
    unfold u8go at a ⊢
    by_cases c2 : s.le ≤ o ∧ o ≤ s.mo
    · rw [if_pos c2]
      by_cases c3 : s.ms - 1 = 0
      · have ek : k = 0 := by omega
        subst ek
        refine ⟨?_, ?_, fun z => ?_⟩
        · show (if s.ms - 1 = 0 then _ else _ : List Int).length ≤ _
          rw [if_pos c3]
          exact len_one h1
        · show ∀ p ∈ (if s.ms - 1 = 0 then _ else _ : List Int), Point p
          rw [if_pos c3]
          exact one (hk o c2.1 c2.2)
        · have z : s.ms - 1 > 0 := z
          omega
      · refine ⟨?_, ?_, fun z => ?_⟩
        · show (if s.ms - 1 = 0 then _ else _ : List Int).length ≤ _
          rw [if_neg c3]
          omega
        · show ∀ p ∈ (if s.ms - 1 = 0 then _ else _ : List Int), Point p
          rw [if_neg c3]
          exact h2
        · have z : s.ms - 1 > 0 := z
          obtain ⟨j, ej⟩ : ∃ j, k = j + 1 := ⟨k - 1, by omega⟩
          subst ej
          exact ⟨j, by show s.ms - 1 = _; omega, hk o c2.1 c2.2⟩
    · rw [if_neg c2] at a
      cases a
  · rw [if_neg c] at a ⊢
    by_cases c2 : o < 128
    · rw [if_pos c2]
      exact ⟨len_one h1, one (by unfold Point; omega), fun z => absurd z c⟩
    rw [if_neg c2] at a ⊢
    unfold u8start at a ⊢
    cases hf : rows8.find? (·.is o) with
    | none => rw [hf] at a; cases a
    | some r =>
      have hm := List.mem_of_find?_eq_some hf
      have hi := List.find?_some hf
      unfold U8R.is at hi
      obtain ⟨i1, i2⟩ := of_decide_eq_true hi
      exact ⟨by dsimp only; omega, h2, fun _ => u8p_row r hm o i1 i2⟩
def TokI (n : Nat) : Tok → Prop
  | .no => True
  | .num _ => True
  | .key s => CtOk s.c ∧ s.c.os.length ≤ n ∧ U8I n s.u
  | .cnt s => s.os.length ≤ n ∧ Oct s.os ∧ CtOk s
theorem toki_ok {n : Nat} {t : Tok} (h : TokI n t) (hn : n < sizeLine) : tokOk t := by
  cases t with
  | no => trivial
  | num s => trivial
  | key s => exact ⟨h.1, Nat.lt_of_le_of_lt h.2.1 hn, Nat.lt_of_le_of_lt h.2.2.1 hn⟩
  | cnt s => exact ⟨h.2.2, Nat.lt_of_le_of_lt h.1 hn⟩
theorem ct_len {n : Nat} {s : Ct} {o : Int} (h1 : s.os.length ≤ n) (h3 : CtOk s) : (ctTake s o).2.os.length ≤ n + 1 ∧ CtOk (ctTake s o).2 := by
  unfold ctTake
  by_cases c : s.b = true
  · rw [if_pos c]
    exact ⟨len_one h1, fun _ => ⟨_, rfl⟩⟩
  · rw [if_neg c]
    unfold ctCount
    by_cases c2 : o = 58 ∧ s.m ≠ none
    · rw [if_pos c2]
      refine ⟨by dsimp only; omega, fun _ => ?_⟩
      cases hm : s.m with
      | none => exact absurd hm c2.2
      | some k => exact ⟨k, rfl⟩
    rw [if_neg c2]
    by_cases c3 : isDg o = false ∨ s.m = some 0
    · rw [if_pos c3]
      exact ⟨by dsimp only; omega, h3⟩
    · rw [if_neg c3]
      exact ⟨by dsimp only; omega, fun _ => ⟨_, rfl⟩⟩
theorem ct_oct {s : Ct} {o : Int} (h2 : Oct s.os) (o1 : 0 ≤ o) (o2 : o ≤ 255) : Oct (ctTake s o).2.os := by
  unfold ctTake
  by_cases c : s.b = true
  · rw [if_pos c]
    exact h2.one o1 o2
  · rw [if_neg c]
    unfold ctCount
    split
    · exact h2
    split <;> exact h2
theorem toki_take {n : Nat} {t : Tok} {o : Int} (h : TokI n t) (o1 : 0 ≤ o) (o2 : o ≤ 255) (a : (tokTake t o).1 = true) : TokI (n + 1) (tokTake t o).2 := by
  cases t with
  | no => trivial
  | num s => trivial
  | key s =>
    obtain ⟨h1, h2, h3⟩ := h
    obtain ⟨l1, l2⟩ := ct_len (o := o) h2 h1
    have a : (bkTake s o).1 = true := a
    show TokI (n + 1) (.key (bkTake s o).2)
    unfold bkTake at a ⊢
    by_cases c : (ctTake s.c o).1 = false
    · rw [if_pos c] at a
      cases a
    rw [if_neg c] at a ⊢
    have um : U8I (n + 1) s.u := ⟨by have := h3.1; omega, h3.2⟩
    by_cases c2 : s.c.b = true
    · rw [if_pos c2] at a ⊢
      by_cases c3 : (u8take s.u o).1 = false
      · rw [if_pos c3] at a
        cases a
      rw [if_neg c3] at a ⊢
      exact ⟨l2, l1, u8_take h3 o1 ((Bool.eq_false_or_eq_true _).resolve_right c3)⟩
    · rw [if_neg c2]
      exact ⟨l2, l1, um⟩
  | cnt s =>
    obtain ⟨h1, h2, h3⟩ := h
    obtain ⟨l1, l2⟩ := ct_len (o := o) h1 h3
    exact ⟨l1, ct_oct h2 o1 o2, l2⟩

/-! ### bencode: the scanner and the builder side by side, on any octets of a short text -/
mutual
def Vl.bw : Nat → Vl → Prop
  | _, .lf k r => (∃ os, k = "bytes" ∧ r = [kd os] ∧ os.length ≤ 9000000 ∧ Oct os) ∨ ∃ m e, k = "number" ∧ r = [.int m, .int e] ∧ (m % 10 ≠ 0 ∨ (m = 0 ∧ e = 0))
  | 0, .ls _ => False
  | n + 1, .ls xs => xs.length ≤ 9000000 ∧ bwL n xs
  | 0, .mp _ => False
  | n + 1, .mp es => es.length ≤ 9000000 ∧ (es.map (·.1)).Pairwise (fun x y => HT.lexLt x y = true) ∧ (∀ e ∈ es, e.1.length ≤ 9000000 ∧ ∀ p ∈ e.1, Point p) ∧ bwM n es
def bwL : Nat → List Vl → Prop
  | _, [] => True
  | n, x :: xs => x.bw n ∧ bwL n xs
def bwM : Nat → List (List Int × Vl) → Prop
  | _, [] => True
  | n, (_, v) :: es => v.bw n ∧ bwM n es
end
theorem bwL_of : ∀ {n : Nat} {xs : List Vl}, (∀ x ∈ xs, x.bw n) → bwL n xs
  | _, [], _ => trivial
  | n, y :: ys, h => ⟨h y (by simp), bwL_of fun x hx => h x (List.mem_cons_of_mem _ hx)⟩
theorem bwM_of : ∀ {n : Nat} {xs : List (List Int × Vl)}, (∀ x ∈ xs, x.2.bw n) → bwM n xs
  | _, [], _ => trivial
  | n, (k, y) :: ys, h => ⟨h (k, y) (by simp), bwM_of fun x hx => h x (List.mem_cons_of_mem _ hx)⟩
def KeyI (k : List Int) : Prop := k.length ≤ 9000000 ∧ ∀ p ∈ k, Point p
/-- a frame and its level; pe: a key waits for its value -/
def FrI (f : Pf) (l : Lv) (pe : Bool) (d : Nat) : Prop := f.m = l.m ∧ (∀ x ∈ f.ins, x.2.bw d) ∧ (f.m = true → l.ks.Nodup ∧ (∀ k ∈ l.ks, KeyI k) ∧ (pe = false → l.ks = f.ins.map (·.1)) ∧ (pe = true → ∃ k, f.k = some k ∧ l.ks = f.ins.map (·.1) ++ [k])) ∧ (f.m = false → l.ks = [])
def FsB : List Pf → List Lv → Bool → Prop
  | [], [], _ => True
  | f :: r, l :: lv, pe => FrI f l pe (24 - (r.length + 1)) ∧ FsB r lv true
  | _, _, _ => False
def szM : List (List Int × Vl) → Nat
  | [] => 0
  | _ :: es => 1 + szM es
/-- how many items and entries stand in the frames -/
def itm : List Pf → Nat
  | [] => 0
  | f :: r => 1 + f.ins.length + itm r
theorem fsb_len : ∀ {fs : List Pf} {lv : List Lv} {pe : Bool}, FsB fs lv pe → fs.length = lv.length
  | [], [], _, _ => rfl
  | _ :: _, _ :: _, _, h => congrArg (· + 1) (fsb_len h.2)
  | [], _ :: _, _, h => h.elim
  | _ :: _, [], _, h => h.elim
def topM : List Lv → Bool
  | [] => false
  | l :: _ => l.m
structure TxB (n : Nat) (s : Sc) (b : Bs) : Prop where
  pl : n ≤ 9000000
  tk : TokI n s.tk
  lv : s.lv.length ≤ 24
  fs : FsB b.fs s.lv (decide (s.wt = "entry"))
  sz : ∀ f ∈ b.fs, f.ins.length ≤ n
  no : b.val = none ↔ s.wt ≠ "nothing"
  vl : ∀ t, b.val = some t → t.bw 24
  w1 : s.wt = "nothing" → s.lv = [] ∧ s.tk = .no
  w2 : s.wt = "key" ∨ s.wt = "entry" → topM s.lv = true
  w3 : s.wt = "value" → topM s.lv = false
  w4 : s.wt = "value" ∨ s.wt = "key" ∨ s.wt = "entry" ∨ s.wt = "nothing"
  w5 : scWant s
theorem TxB.mono {n m : Nat} {s : Sc} {b : Bs} (I : TxB n s b) (q : n ≤ m) (hm : m ≤ 9000000) : TxB m s b := by
  refine ⟨hm, ?_, I.lv, I.fs, fun f hf => Nat.le_trans (I.sz f hf) q, I.no, I.vl, I.w1, I.w2, I.w3, I.w4, I.w5⟩
  have h := I.tk
  cases ht : s.tk with
  | no => trivial
  | num x => trivial
  | key x =>
    rw [ht] at h
    exact ⟨h.1, Nat.le_trans h.2.1 q, Nat.le_trans h.2.2.1 q, h.2.2.2⟩
  | cnt x =>
    rw [ht] at h
    exact ⟨Nat.le_trans h.1 q, h.2⟩

/-! ### steps -/
def wtP (s : Sc) : Bool := decide (s.wt = "entry")
theorem rdy_b {n : Nat} {fs : List Pf} {lv : List Lv} {v : Option Vl} {pe : Bool} (h : FsB fs lv pe) (hp : topM lv = true → pe = true) (sz : ∀ f ∈ fs, f.ins.length ≤ n) (hn : n ≤ 9000000) : (Bs.mk fs v).ready := fun f r e => by
  have e : fs = f :: r := e
  subst e
  cases lv with
  | nil => exact h.elim
  | cons l lv =>
    obtain ⟨⟨h1, h2, h3, _⟩, _⟩ := h
    have s1 := sz f (by simp)
    refine ⟨fun m => ?_, by omega⟩
    obtain ⟨_, _, _, k4⟩ := h3 m
    obtain ⟨k, ek, _⟩ := k4 (hp (h1.symm.trans m))
    exact ⟨k, ek⟩
/-- a value is put where it belongs -/
theorem put_b {n : Nat} {fs : List Pf} {lv : List Lv} {pe : Bool} {t : Vl} (h : FsB fs lv pe) (hp : topM lv = true → pe = true) (sz : ∀ f ∈ fs, f.ins.length ≤ n) (ht : t.bw (24 - fs.length)) :
    FsB ((Bs.mk fs none).putv t).fs lv false ∧ (∀ f ∈ ((Bs.mk fs none).putv t).fs, f.ins.length ≤ n + 1) ∧ (((Bs.mk fs none).putv t).val = none ↔ lv ≠ []) ∧ ∀ u, ((Bs.mk fs none).putv t).val = some u → u.bw 24 := by
  cases fs with
  | nil =>
    cases lv with
    | cons l lv => exact h.elim
    | nil => exact ⟨trivial, fun f hf => absurd hf (by simp [Bs.putv]), ⟨fun z => (by cases z), fun z => absurd rfl z⟩, fun u e => by cases e; exact ht⟩
  | cons f r =>
    cases lv with
    | nil => exact h.elim
    | cons l lv =>
      obtain ⟨⟨h1, h2, h3, h5⟩, h4⟩ := h
      have e : (Bs.mk (f :: r) none).putv t = ⟨⟨f.m, f.k, f.ins ++ [(if f.m then f.k.getD [] else [], t)]⟩ :: r, none⟩ := rfl
      rw [e]
      refine ⟨⟨⟨h1, fun x hx => ?_, fun m => ?_, h5⟩, h4⟩, fun g hg => ?_, ⟨fun _ z => (by cases z), fun _ => rfl⟩, fun u z => by cases z⟩
      · rcases List.mem_append.mp hx with q | q
        · exact h2 x q
        · rw [List.mem_singleton.mp q]
          exact ht
      · have m : f.m = true := m
        obtain ⟨k1, k2, _, k4⟩ := h3 m
        obtain ⟨k, ek, el⟩ := k4 (hp (h1.symm.trans m))
        refine ⟨k1, k2, fun _ => ?_, fun z => by cases z⟩
        show l.ks = (f.ins ++ [(if f.m = true then f.k.getD [] else [], t)]).map (·.1)
        rw [if_pos m, ek, el, List.map_append]
        rfl
      · rcases List.mem_cons.mp hg with q | q
        · rw [q]
          show (f.ins ++ [_]).length ≤ n + 1
          rw [List.length_append]
          have := sz f (by simp)
          show f.ins.length + 1 ≤ n + 1
          omega
        · have := sz g (List.mem_cons_of_mem _ q)
          omega
theorem sort_mem {es : List (List Int × Vl)} {e : List Int × Vl} (h : e ∈ sortM es) : e ∈ es := (sortM_perm es).mem_iff.mp h
theorem built_b {d : Nat} {f : Pf} {l : Lv} (h : FrI f l false d) (hl : f.ins.length ≤ 9000000) : f.built.bw (d + 1) := by
  obtain ⟨h1, h2, h3, _⟩ := h
  cases hm : f.m with
  | false =>
    have e : f.built = .ls (f.ins.map (·.2)) := by
      unfold Pf.built
      rw [hm]
      rfl
    rw [e]
    refine ⟨by rw [List.length_map]; omega, bwL_of fun x hx => ?_⟩
    obtain ⟨y, hy, rfl⟩ := List.mem_map.mp hx
    exact h2 y hy
  | true =>
    have e : f.built = .mp (sortM f.ins) := by
      unfold Pf.built
      rw [hm]
      rfl
    rw [e]
    obtain ⟨k1, k2, k3, _⟩ := h3 hm
    have k3 := k3 rfl
    rw [k3] at k1 k2
    refine ⟨by rw [(sortM_perm f.ins).length_eq]; exact hl, sortM_strict k1, fun e he => ?_, bwM_of fun x hx => h2 x (sort_mem hx)⟩
    exact k2 e.1 (List.mem_map_of_mem (sort_mem he))
theorem wtOf_in (lv : List Lv) : (lv = [] ∧ wtOf lv = "nothing") ∨ (∃ l r, lv = l :: r ∧ l.m = true ∧ wtOf lv = "key") ∨ ∃ l r, lv = l :: r ∧ l.m = false ∧ wtOf lv = "value" := by
  cases lv with
  | nil => exact .inl ⟨rfl, rfl⟩
  | cons l r =>
    cases hm : l.m with
    | true => exact .inr (.inl ⟨l, r, rfl, hm, by show (if l.m = true then ("key" : Str) else "value") = _; rw [if_pos hm]⟩)
    | false => exact .inr (.inr ⟨l, r, rfl, hm, by show (if l.m = true then ("key" : Str) else "value") = _; rw [if_neg (by rw [hm]; decide)]⟩)
theorem ne_kn : ("key" : Str) ≠ "nothing" := by decide +kernel
theorem ne_vn : ("value" : Str) ≠ "nothing" := by decide +kernel
theorem ne_en : ("entry" : Str) ≠ "nothing" := by decide +kernel
theorem ne_ke : ("key" : Str) ≠ "entry" := by decide +kernel
theorem ne_ve : ("value" : Str) ≠ "entry" := by decide +kernel
theorem ne_ne : ("nothing" : Str) ≠ "entry" := by decide +kernel
theorem ne_kv : ("key" : Str) ≠ "value" := by decide +kernel
/-- what stands behind a value -/
theorem end_b {n : Nat} {s : Sc} {b : Bs} (hn : n ≤ 9000000) (ht : s.tk = .no) (hl : s.lv.length ≤ 24) (hf : FsB b.fs s.lv false) (sz : ∀ f ∈ b.fs, f.ins.length ≤ n) (hv : b.val = none ↔ s.lv ≠ []) (vl : ∀ t, b.val = some t → t.bw 24) : TxB n (scEndValue s) b := by
  have e : (scEndValue s).wt = wtOf s.lv := rfl
  have pe : decide ((scEndValue s).wt = "entry") = false := by
    rw [e]
    refine decide_eq_false ?_
    rcases wtOf_in s.lv with ⟨_, q⟩ | ⟨_, _, _, _, q⟩ | ⟨_, _, _, _, q⟩ <;> rw [q]
    · exact ne_ne
    · exact ne_ke
    · exact ne_ve
  refine ⟨hn, by show TokI n s.tk; rw [ht]; trivial, hl, by rw [pe]; exact hf, sz, ?_, vl, ?_, ?_, ?_, ?_, ?_⟩
  · rw [hv, e]
    rcases wtOf_in s.lv with ⟨a, q⟩ | ⟨l, r, a, _, q⟩ | ⟨l, r, a, _, q⟩ <;> rw [q, a]
    · exact ⟨fun z => absurd rfl z, fun z => absurd rfl z⟩
    · exact ⟨fun _ => ne_kn, fun _ z => by cases z⟩
    · exact ⟨fun _ => ne_vn, fun _ z => by cases z⟩
  · rw [e]
    rcases wtOf_in s.lv with ⟨a, q⟩ | ⟨l, r, a, _, q⟩ | ⟨l, r, a, _, q⟩ <;> rw [q]
    · exact fun _ => ⟨a, ht⟩
    · exact fun z => absurd z ne_kn
    · exact fun z => absurd z ne_vn
  · rw [e]
    show _ → topM s.lv = true
    rcases wtOf_in s.lv with ⟨a, q⟩ | ⟨l, r, a, m, q⟩ | ⟨l, r, a, _, q⟩ <;> rw [q]
    · exact fun z => z.elim (fun z => absurd z.symm ne_kn) (fun z => absurd z ne_ne)
    · rw [a]
      exact fun _ => m
    · exact fun z => z.elim (fun z => absurd z.symm ne_kv) (fun z => absurd z ne_ve)
  · rw [e]
    show _ → topM s.lv = false
    rcases wtOf_in s.lv with ⟨a, q⟩ | ⟨l, r, a, m, q⟩ | ⟨l, r, a, m, q⟩ <;> rw [q]
    · exact fun z => absurd z.symm ne_vn
    · exact fun z => absurd z ne_kv
    · rw [a]
      exact fun _ => m
  · rw [e]
    rcases wtOf_in s.lv with ⟨a, q⟩ | ⟨l, r, a, m, q⟩ | ⟨l, r, a, m, q⟩ <;> rw [q]
    · exact .inr (.inr (.inr rfl))
    · exact .inr (.inl rfl)
    · exact .inl rfl
  · unfold scWant
    show match s.tk with | .no => True | .num _ => (scEndValue s).wt ≠ "key" | .cnt _ => (scEndValue s).wt ≠ "key" | .key _ => (scEndValue s).wt = "key"
    rw [ht]
    trivial

/-! ### one octet -/
theorem nrm_norm (m : Int) : (nrm m 0).1 % 10 ≠ 0 ∨ ((nrm m 0).1 = 0 ∧ (nrm m 0).2 = 0) := by
  by_cases h : m = 0
  · rw [h, nrm_zero]
    exact .inr ⟨rfl, rfl⟩
  · obtain ⟨a, k, e, ha, _⟩ := nrm_of 0 h
    rw [e]
    exact .inl ha
theorem bw_num (m e : Int) (h : m % 10 ≠ 0 ∨ (m = 0 ∧ e = 0)) (n : Nat) : (Vl.lf "number" [.int m, .int e]).bw n := by cases n <;> exact .inr ⟨m, e, rfl, rfl, h⟩
theorem bw_by (os : List Int) (h : os.length ≤ 9000000) (o : Oct os) (n : Nat) : (Vl.lf "bytes" [kd os]).bw n := by cases n <;> exact .inl ⟨os, rfl, rfl, h, o⟩
theorem fsb_pe {fs : List Pf} {lv : List Lv} {pe : Bool} (h : FsB fs lv pe) (hp : topM lv = true → pe = true) : FsB fs lv true := by
  cases fs with
  | nil =>
    cases lv with
    | nil => trivial
    | cons l lv => exact h.elim
  | cons f r =>
    cases lv with
    | nil => exact h.elim
    | cons l lv =>
      obtain ⟨⟨h1, h2, h3, h5⟩, h4⟩ := h
      refine ⟨⟨h1, h2, fun m => ?_, h5⟩, h4⟩
      have e := hp (h1.symm.trans m)
      subst e
      exact h3 m
theorem TxB.pend {n : Nat} {s : Sc} {b : Bs} (I : TxB n s b) (k : s.wt ≠ "key") (z : s.wt ≠ "nothing") : topM s.lv = true → decide (s.wt = "entry") = true := fun t => by
  rcases I.w4 with e | e | e | e
  · rw [I.w3 e] at t
    cases t
  · exact absurd e k
  · exact decide_eq_true e
  · exact absurd e z
/-- a leaf is told -/
theorem leaf_b {n : Nat} {s : Sc} {b : Bs} {k : Str} {r : List PyData} (I : TxB n s b) (hn : n < 9000000) (hk : s.wt ≠ "key") (hz : s.wt ≠ "nothing") (ht : ∀ d, (Vl.lf k r).bw d) : b.okRun [.lf k r] ∧ TxB (n + 1) (scEndValue { s with tk := .no }) (b.run [.lf k r]) := by
  have hv := I.no.mpr hz
  have hp := I.pend hk hz
  obtain ⟨fs, val⟩ := b
  have hv : val = none := hv
  subst hv
  obtain ⟨p1, p2, p3, p4⟩ := put_b I.fs hp I.sz (ht (24 - fs.length))
  refine ⟨⟨rdy_b I.fs hp I.sz (by omega), rfl, trivial⟩, ?_⟩
  exact end_b (s := { s with tk := .no }) (by omega) rfl I.lv p1 p2 p3 p4
theorem go_b {n : Nat} {s : Sc} {b : Bs} {o : Int} (I : TxB n s b) (hn : n < 9000000) (o1 : 0 ≤ o) (o2 : o ≤ 255) (hk : s.tk ≠ .no) (a : (scGo s o).1 = true) : b.okRun (scGo s o).2.1 ∧ TxB (n + 1) (scGo s o).2.2 (b.run (scGo s o).2.1) := by
  have hz : s.wt ≠ "nothing" := fun e => hk (I.w1 e).2
  unfold scGo at a ⊢
  by_cases c : (tokTake s.tk o).1 = false
  · rw [if_pos c] at a
    cases a
  rw [if_neg c] at a ⊢
  have ok : (tokTake s.tk o).1 = true := (Bool.eq_false_or_eq_true _).resolve_right c
  have tk := toki_take I.tk o1 o2 ok
  have w5 := I.w5
  by_cases c2 : tokDone (tokTake s.tk o).2 = false
  · rw [if_pos c2]
    refine ⟨trivial, by omega, tk, I.lv, I.fs, fun f hf => Nat.le_succ_of_le (I.sz f hf), I.no, I.vl, fun e => absurd e hz, I.w2, I.w3, I.w4, ?_⟩
    unfold scWant at w5 ⊢
    cases ht : s.tk with
    | no => exact absurd ht hk
    | num x => rw [ht] at w5; exact w5
    | key x => rw [ht] at w5; exact w5
    | cnt x => rw [ht] at w5; exact w5
  rw [if_neg c2] at a ⊢
  unfold scWant at w5
  cases ht : s.tk with
  | no => exact absurd ht hk
  | num x =>
    rw [ht] at w5
    have q := leaf_b I hn w5 hz fun d => bw_num (bnPair (bnTake x o).2).1 (bnPair (bnTake x o).2).2 (nrm_norm _) d
    exact q
  | cnt x =>
    rw [ht] at w5 tk
    have tk : TokI (n + 1) (.cnt (ctTake x o).2) := tk
    have q := leaf_b I hn w5 hz fun d => bw_by _ (by have := tk.1; omega) tk.2.1 d
    exact q
  | key x =>
    rw [ht] at w5 tk a
    have tk : TokI (n + 1) (.key (bkTake x o).2) := tk
    have a : scFresh s.lv (bkTake x o).2.u.ps = true := a
    show b.okRun [.ky (bkTake x o).2.u.ps] ∧ TxB (n + 1) { s with tk := .no, wt := "entry", lv := scNote s.lv (bkTake x o).2.u.ps } (b.run [.ky (bkTake x o).2.u.ps])
    have hv := I.no.mpr hz
    have top := I.w2 (.inl w5)
    have pe : decide (s.wt = "entry") = false := decide_eq_false (by rw [w5]; exact ne_ke)
    have hfs := I.fs
    rw [pe] at hfs
    obtain ⟨u1, u2, _⟩ := tk.2.2
    have sz := I.sz
    have hl := I.lv
    generalize (bkTake x o).2.u.ps = ps at a u1 u2
    obtain ⟨fs, val⟩ := b
    have hv : val = none := hv
    subst hv
    cases hlv : s.lv with
    | nil => rw [hlv] at top; cases top
    | cons l lv =>
      rw [hlv] at a top hfs hl
      cases fs with
      | nil => exact hfs.elim
      | cons f r =>
        obtain ⟨⟨h1, h2, h3, h5⟩, h4⟩ := hfs
        have top : l.m = true := top
        have nk : ps ∉ l.ks := by
          have a : (!decide (ps ∈ l.ks)) = true := a
          intro z
          rw [decide_eq_true z] at a
          cases a
        obtain ⟨k1, k2, k3, _⟩ := h3 (h1.trans top)
        have en : scNote (l :: lv) ps = ⟨l.m, l.ks ++ [ps]⟩ :: lv := by
          show (if ps ∈ l.ks then l :: lv else ⟨l.m, l.ks ++ [ps]⟩ :: lv) = _
          rw [if_neg nk]
        rw [en]
        refine ⟨⟨⟨f, r, rfl⟩, rfl, trivial⟩, by omega, trivial, hl, ?_, fun g hg => ?_, ⟨fun _ => ne_en, fun _ => rfl⟩, fun t e => (by cases e), fun e => absurd e ne_en, fun _ => top, fun e => absurd e.symm ne_ve, .inr (.inr (.inl rfl)), trivial⟩
        · show FsB (⟨f.m, some ps, f.ins⟩ :: r) (⟨l.m, l.ks ++ [ps]⟩ :: lv) (decide (("entry" : Str) = "entry"))
          rw [decide_eq_true rfl]
          refine ⟨⟨h1, h2, fun _ => ⟨?_, fun k hk => ?_, fun z => (by cases z), fun _ => ⟨ps, rfl, by rw [k3 rfl]⟩⟩, fun z => (by rw [h1.trans top] at z; cases z)⟩, h4⟩
          · rw [List.nodup_append]
            exact ⟨k1, by simp, fun x hx y hy e => nk (by rw [List.mem_singleton.mp hy] at e; rw [← e]; exact hx)⟩
          · rcases List.mem_append.mp hk with q | q
            · exact k2 k q
            · rw [List.mem_singleton.mp q]
              exact ⟨by omega, u2⟩
        · have hg : g ∈ (⟨f.m, some ps, f.ins⟩ :: r : List Pf) := hg
          rcases List.mem_cons.mp hg with q | q
          · rw [q]
            have := sz f (by simp)
            show f.ins.length ≤ n + 1
            omega
          · have := sz g (List.mem_cons_of_mem _ q)
            omega
theorem mark_b {n : Nat} {s : Sc} {b : Bs} {o : Int} (I : TxB n s b) (hn : n < 9000000) (o1 : 0 ≤ o) (o2 : o ≤ 255) (hk : s.tk = .no) (a : (scMark s o).1 = true) : b.okRun (scMark s o).2.1 ∧ TxB (n + 1) (scMark s o).2.2 (b.run (scMark s o).2.1) := by
  have beg : ∀ (t : Tok), TokI 0 t → (tokTake t o).1 = true → s.wt ≠ "nothing" → (∀ w5 : scWant { s with tk := (tokTake t o).2 }, b.okRun [] ∧ TxB (n + 1) { s with tk := (tokTake t o).2 } (b.run [])) := fun t ht at_ hz w5 => by
    refine ⟨trivial, by omega, ?_, I.lv, I.fs, fun f hf => Nat.le_succ_of_le (I.sz f hf), I.no, I.vl, fun e => absurd e hz, I.w2, I.w3, I.w4, w5⟩
    have q := toki_take ht o1 o2 at_
    have J : TxB 1 { s with tk := (tokTake t o).2, wt := s.wt } b → True := fun _ => trivial
    show TokI (n + 1) (tokTake t o).2
    revert q
    generalize (tokTake t o).2 = t2
    intro q
    cases t2 with
    | no => trivial
    | num x => trivial
    | key x => exact ⟨q.1, by have := q.2.1; omega, by have := q.2.2.1; omega, q.2.2.2⟩
    | cnt x => exact ⟨by have := q.1; omega, q.2⟩
  unfold scMark at a ⊢
  by_cases c : o = 101
  · rw [if_pos c] at a ⊢
    unfold scClose at a ⊢
    cases hlv : s.lv with
    | nil => rw [hlv] at a; cases a
    | cons l lv =>
      rw [hlv] at a
      dsimp only at a ⊢
      by_cases c2 : s.wt = "entry"
      · rw [if_pos c2] at a
        cases a
      · rw [if_neg c2]
        have hz : s.wt ≠ "nothing" := fun e => by
          have := (I.w1 e).1
          rw [hlv] at this
          cases this
        have hv := I.no.mpr hz
        have hfs := I.fs
        rw [decide_eq_false c2, hlv] at hfs
        have sz := I.sz
        have hl := I.lv
        rw [hlv] at hl
        obtain ⟨fs, val⟩ := b
        have hv : val = none := hv
        subst hv
        cases fs with
        | nil => exact hfs.elim
        | cons f r =>
          obtain ⟨h1, h4⟩ := hfs
          have lr := fsb_len h4
          have hl : lv.length + 1 ≤ 24 := hl
          have bf := built_b h1 (by have := sz f (by simp); omega)
          rw [show 24 - (r.length + 1) + 1 = 24 - r.length by omega] at bf
          have szr : ∀ g ∈ r, g.ins.length ≤ n := fun g hg => sz g (List.mem_cons_of_mem _ hg)
          obtain ⟨p1, p2, p3, p4⟩ := put_b h4 (fun _ => rfl) szr bf
          refine ⟨⟨⟨f, r, rfl, fun m => ?_, fun m => ?_, rdy_b h4 (fun _ => rfl) szr (by omega)⟩, rfl, trivial⟩, ?_⟩
          · obtain ⟨k1, _, k3, _⟩ := h1.2.2.1 m
            rw [← k3 rfl]
            exact k1
          · have := sz f (by simp)
            omega
          · exact end_b (s := { s with lv := lv }) (by omega) hk (by show lv.length ≤ 24; omega) p1 p2 p3 p4
  rw [if_neg c] at a ⊢
  by_cases cz : s.wt = "nothing"
  · rw [if_pos cz] at a
    cases a
  rw [if_neg cz] at a ⊢
  by_cases ck : s.wt = "key"
  · rw [if_pos ck] at a ⊢
    exact beg (.key bk0) ⟨fun e => (by cases e), Nat.zero_le _, Nat.zero_le _, fun p h => absurd h (by simp [bk0, u80]), fun z => absurd z (by decide)⟩ a cz ck
  rw [if_neg ck] at a ⊢
  have grow : ∀ m, (scGrow s m).1 = true → b.okRun (scGrow s m).2.1 ∧ TxB (n + 1) (scGrow s m).2.2 (b.run (scGrow s m).2.1) := fun m a => by
    unfold scGrow at a ⊢
    by_cases c24 : s.lv.length = 24
    · rw [if_pos c24] at a
      cases a
    rw [if_neg c24]
    have hv := I.no.mpr cz
    have hl := I.lv
    have fl := fsb_len I.fs
    have wn : (if m = true then ("key" : Str) else "value") ≠ "nothing" := by
      cases m with
      | true => exact ne_kn
      | false => exact ne_vn
    have we : (if m = true then ("key" : Str) else "value") ≠ "entry" := by
      cases m with
      | true => exact ne_ke
      | false => exact ne_ve
    refine ⟨⟨by show b.fs.length ≤ 900; omega, hv, trivial⟩, by omega, by show TokI _ s.tk; rw [hk]; trivial, by show s.lv.length + 1 ≤ 24; omega, ?_, fun f hf => ?_, ?_, I.vl, fun e => absurd e wn, ?_, ?_, ?_, by unfold scWant; show match s.tk with | .no => True | .num _ => _ | .cnt _ => _ | .key _ => _; rw [hk]; trivial⟩
    · show FsB (⟨m, none, []⟩ :: b.fs) (⟨m, []⟩ :: s.lv) (decide ((if m = true then ("key" : Str) else "value") = "entry"))
      rw [decide_eq_false we]
      exact ⟨⟨rfl, fun x hx => absurd hx (by simp), fun _ => ⟨List.nodup_nil, fun k h => absurd h (by simp), fun _ => rfl, (fun z => by cases z)⟩, fun _ => rfl⟩, fsb_pe I.fs (I.pend ck cz)⟩
    · have hf : f ∈ (⟨m, none, []⟩ :: b.fs : List Pf) := hf
      rcases List.mem_cons.mp hf with q | q
      · rw [q]
        exact Nat.zero_le _
      · exact Nat.le_succ_of_le (I.sz f q)
    · exact ⟨fun _ => wn, fun _ => hv⟩
    · show (if m = true then ("key" : Str) else "value") = "key" ∨ _ → m = true
      cases m with
      | true => exact fun _ => rfl
      | false => exact fun z => z.elim (fun z => absurd z.symm ne_kv) fun z => absurd z ne_ve
    · show (if m = true then ("key" : Str) else "value") = "value" → m = false
      cases m with
      | true => exact fun z => absurd z ne_kv
      | false => exact fun _ => rfl
    · show (if m = true then ("key" : Str) else "value") = "value" ∨ _
      cases m with
      | true => exact .inr (.inl rfl)
      | false => exact .inl rfl
  by_cases c1 : o = 108
  · rw [if_pos c1] at a ⊢
    exact grow false a
  rw [if_neg c1] at a ⊢
  by_cases c2 : o = 100
  · rw [if_pos c2] at a ⊢
    exact grow true a
  rw [if_neg c2] at a ⊢
  by_cases c3 : o = 105
  · rw [if_pos c3]
    refine ⟨trivial, by omega, trivial, I.lv, I.fs, fun f hf => Nat.le_succ_of_le (I.sz f hf), I.no, I.vl, fun e => absurd e cz, I.w2, I.w3, I.w4, ck⟩
  rw [if_neg c3] at a ⊢
  exact beg (.cnt ct0) ⟨Nat.zero_le _, oct_nil, fun e => by cases e⟩ a cz ck

/-! ### whole texts of bencode: the place where they are refused, or the value -/
theorem tx_nextB {s : Sc} {b : Bs} {o : Int} {es : List Ev} {s' : Sc} (I : TxB s.pl s b) (hn : s.pl < 9000000) (o1 : 0 ≤ o) (o2 : o ≤ 255) (h : scNext s o = some (es, s')) : b.okRun es ∧ TxB s'.pl s' (b.run es) ∧ s'.pl = s.pl + 1 := by
  unfold scNext at h
  by_cases a : (scTake s o).1 = true
  · rw [if_pos a] at h
    cases h
    have q : b.okRun (scTake s o).2.1 ∧ TxB (s.pl + 1) (scTake s o).2.2 (b.run (scTake s o).2.1) := by
      cases ht : s.tk with
      | no =>
        have e : scTake s o = scMark s o := by
          unfold scTake
          rw [ht]
        rw [e] at a ⊢
        exact mark_b I hn o1 o2 ht a
      | num x =>
        have e : scTake s o = scGo s o := by
          unfold scTake
          rw [ht]
        rw [e] at a ⊢
        exact go_b I hn o1 o2 (by rw [ht]; exact fun z => by cases z) a
      | key x =>
        have e : scTake s o = scGo s o := by
          unfold scTake
          rw [ht]
        rw [e] at a ⊢
        exact go_b I hn o1 o2 (by rw [ht]; exact fun z => by cases z) a
      | cnt x =>
        have e : scTake s o = scGo s o := by
          unfold scTake
          rw [ht]
        rw [e] at a ⊢
        exact go_b I hn o1 o2 (by rw [ht]; exact fun z => by cases z) a
    obtain ⟨q1, k⟩ := q
    have ep := scTake_pl s o
    refine ⟨q1, ?_, by show (scTake s o).2.2.pl + 1 = _; omega⟩
    show TxB ((scTake s o).2.2.pl + 1) _ _
    rw [ep]
    exact ⟨k.pl, k.tk, k.lv, k.fs, k.sz, k.no, k.vl, k.w1, k.w2, k.w3, k.w4, k.w5⟩
  · rw [if_neg a] at h
    cases h
theorem tx_zeroB : TxB sc0.pl sc0 ⟨[], none⟩ := ⟨by decide, trivial, by decide, trivial, fun f hf => absurd hf (by simp), ⟨fun _ => ne_vn, fun _ => rfl⟩, (fun t e => by cases e), (fun e => absurd e ne_vn), fun z => z.elim (fun z => absurd z.symm ne_kv) (fun z => absurd z ne_ve), fun _ => rfl, .inl rfl, trivial⟩
theorem fsb_ks {N : Nat} : ∀ {fs : List Pf} {lv : List Lv} {pe : Bool}, FsB fs lv pe → (∀ f ∈ fs, f.ins.length ≤ N) → ∀ l ∈ lv, l.ks.length ≤ N + 1
  | [], [], _, _, _, l, hl => absurd hl (by simp)
  | f :: r, l :: lv, pe, h, sz, x, hx => by
    obtain ⟨⟨h1, h2, h3, h5⟩, h4⟩ := h
    rcases List.mem_cons.mp hx with q | q
    · rw [q]
      have s1 := sz f (by simp)
      cases hm : f.m with
      | false =>
        rw [h5 hm]
        exact Nat.zero_le _
      | true =>
        obtain ⟨_, _, k3, k4⟩ := h3 hm
        cases pe with
        | false =>
          rw [k3 rfl, List.length_map]
          omega
        | true =>
          obtain ⟨k, _, e⟩ := k4 rfl
          rw [e, List.length_append, List.length_map]
          show f.ins.length + 1 ≤ _
          omega
    · exact fsb_ks h4 (fun g hg => sz g (List.mem_cons_of_mem _ hg)) x q
  | [], _ :: _, _, h, _, _, _ => h.elim
  | _ :: _, [], _, h, _, _, _ => h.elim
theorem tx_wf {n : Nat} {s : Sc} {b : Bs} (I : TxB n s b) : Wf s := by
  have hn := I.pl
  refine ⟨toki_ok I.tk (by rw [sizeLine_eq]; omega), I.w5, fun e z => ?_, I.lv, fun l hl => ?_⟩
  · have := I.w2 (.inl e)
    rw [z] at this
    cases this
  · have := fsb_ks I.fs I.sz l hl
    rw [sizeLine_eq]
    omega
def rdGo : Sc × Bs → List Int → Nat ⊕ (Sc × Bs)
  | st, [] => .inr st
  | st, o :: os => match scNext st.1 o with
    | none => .inl st.1.pl
    | some r => rdGo (r.2, st.2.run r.1) os
def rd0 : Sc × Bs := (sc0, ⟨[], none⟩)
def rdEnd : Nat ⊕ (Sc × Bs) → Nat ⊕ Vl
  | .inl k => .inl k
  | .inr st => if st.1.wt = "nothing" then .inr (st.2.val.getD (.ls [])) else .inl st.1.pl
def rdAll (os : List Int) : Nat ⊕ Vl := rdEnd (rdGo rd0 os)
theorem rdGo_app : ∀ (a b : List Int) (st st' : Sc × Bs), rdGo st a = .inr st' → rdGo st (a ++ b) = rdGo st' b
  | [], b, st, st', h => by
    cases h
    rfl
  | o :: a, b, st, st', h => by
    show (match scNext st.1 o with | none => Sum.inl st.1.pl | some r => rdGo (r.2, st.2.run r.1) (a ++ b)) = _
    have h : (match scNext st.1 o with | none => Sum.inl st.1.pl | some r => rdGo (r.2, st.2.run r.1) a) = Sum.inr st' := h
    cases e : scNext st.1 o with
    | none => rw [e] at h; cases h
    | some r =>
      rw [e] at h
      exact rdGo_app a b _ _ h
theorem rd_step {os : List Int} {i : Nat} {o : Int} {st : Sc × Bs} {r : List Ev × Sc} (h : rdGo rd0 (os.take i) = .inr st) (ho : os[i]? = some o) (hn : scNext st.1 o = some r) : rdGo rd0 (os.take (i + 1)) = .inr (r.2, st.2.run r.1) := by
  rw [take_one ho, rdGo_app _ _ _ _ h]
  show (match scNext st.1 o with | none => Sum.inl st.1.pl | some r => rdGo (r.2, st.2.run r.1) []) = _
  rw [hn]
  rfl
theorem rd_stop {os : List Int} {i : Nat} {o : Int} {st : Sc × Bs} (h : rdGo rd0 (os.take i) = .inr st) (ho : os[i]? = some o) (hn : scNext st.1 o = none) : rdAll os = .inl st.1.pl := by
  have e : os = os.take i ++ (o :: os.drop (i + 1)) := by
    have q := List.take_append_drop i os
    rw [List.drop_eq_getElem_cons (List.getElem?_eq_some_iff.mp ho).1] at q
    rw [(List.getElem?_eq_some_iff.mp ho).2] at q
    exact q.symm
  unfold rdAll
  rw [e, rdGo_app _ _ _ _ h]
  show rdEnd (match scNext st.1 o with | none => Sum.inl st.1.pl | some r => rdGo (r.2, st.2.run r.1) _) = _
  rw [hn]
  rfl
/-- whatever the machine comes to, the program can follow it -/
structure Safe (os : List Int) : Prop where
  wf : ∀ i st, i ≤ os.length → rdGo rd0 (os.take i) = .inr st → Wf st.1 ∧ st.1.pl = i
  ok : ∀ i st o es s', os[i]? = some o → rdGo rd0 (os.take i) = .inr st → scNext st.1 o = some (es, s') → st.2.okRun es
  en : ∀ st, rdGo rd0 os = .inr st → st.1.wt = "nothing" → ∃ t, st.2.val = some t
theorem rd_goodB : ∀ {os : List Int}, os.length ≤ 9000000 → Oct os → ∀ i, i ≤ os.length → ∀ st, rdGo rd0 (os.take i) = .inr st → TxB st.1.pl st.1 st.2 ∧ st.1.pl = i := by
  intro os hl ho i
  induction i with
  | zero =>
    intro _ st e
    cases e
    exact ⟨tx_zeroB, rfl⟩
  | succ i ih =>
    intro hi st e
    have eo : os[i]? = some os[i] := List.getElem?_eq_getElem (by omega)
    rw [take_one eo] at e
    cases h0 : rdGo rd0 (os.take i) with
    | inl k =>
      exfalso
      have key : ∀ (a b : List Int) (st : Sc × Bs) (k : Nat), rdGo st a = .inl k → rdGo st (a ++ b) = .inl k := by
        intro a
        induction a with
        | nil => intro b st k h; cases h
        | cons x a ia =>
          intro b st k h
          show (match scNext st.1 x with | none => Sum.inl st.1.pl | some r => rdGo (r.2, st.2.run r.1) (a ++ b)) = _
          have h : (match scNext st.1 x with | none => Sum.inl st.1.pl | some r => rdGo (r.2, st.2.run r.1) a) = Sum.inl k := h
          cases e : scNext st.1 x with
          | none => rw [e] at h; exact h
          | some r =>
            rw [e] at h
            exact ia b _ _ h
      rw [key _ _ _ _ h0] at e
      cases e
    | inr st0 =>
      obtain ⟨I, p⟩ := ih (by omega) st0 h0
      rw [rdGo_app _ _ _ _ h0] at e
      have e : (match scNext st0.1 os[i] with | none => Sum.inl st0.1.pl | some r => rdGo (r.2, st0.2.run r.1) []) = Sum.inr st := e
      cases hn : scNext st0.1 os[i] with
      | none => rw [hn] at e; cases e
      | some r =>
        rw [hn] at e
        cases e
        obtain ⟨o1, o2⟩ := ho os[i] (List.getElem_mem _)
        obtain ⟨_, k2, k3⟩ := tx_nextB (es := r.1) (s' := r.2) I (by omega) o1 o2 hn
        exact ⟨k2, by rw [k3, p]⟩
theorem safe_short {os : List Int} (hl : os.length ≤ 9000000) (ho : Oct os) : Safe os := by
  refine ⟨fun i st hi e => ?_, fun i st o es s' eo e hn => ?_, fun st e w => ?_⟩
  · obtain ⟨I, p⟩ := rd_goodB hl ho i hi st e
    exact ⟨tx_wf I, p⟩
  · have hi := (List.getElem?_eq_some_iff.mp eo).1
    obtain ⟨I, p⟩ := rd_goodB hl ho i (by omega) st e
    obtain ⟨o1, o2⟩ := ho o (List.mem_of_getElem? eo)
    exact (tx_nextB I (by omega) o1 o2 hn).1
  · obtain ⟨I, p⟩ := rd_goodB hl ho os.length (Nat.le_refl _) st (by rw [List.take_length]; exact e)
    cases hv : st.2.val with
    | some t => exact ⟨t, rfl⟩
    | none => exact absurd w (I.no.mp hv)
/-- of a short text: the value is good, or the place lies within -/
theorem rd_valB {os : List Int} (hl : os.length ≤ 9000000) (ho : Oct os) : ∀ t, rdAll os = .inr t → t.bw 24 := fun t h => by
  unfold rdAll at h
  cases e : rdGo rd0 os with
  | inl k => rw [e] at h; cases h
  | inr st =>
    rw [e] at h
    obtain ⟨I, _⟩ := rd_goodB hl ho os.length (Nat.le_refl _) st (by rw [List.take_length]; exact e)
    have h : (if st.1.wt = "nothing" then Sum.inr (st.2.val.getD (.ls [])) else Sum.inl st.1.pl : Nat ⊕ Vl) = .inr t := h
    by_cases w : st.1.wt = "nothing"
    · rw [if_pos w] at h
      cases hv : st.2.val with
      | none => exact absurd w (I.no.mp hv)
      | some u =>
        rw [hv] at h
        cases h
        exact I.vl _ hv
    · rw [if_neg w] at h
      cases h
theorem rd_placeB {os : List Int} (S : Safe os) : ∀ k, rdAll os = .inl k → k ≤ os.length := fun k h => by
  have key : ∀ i, i ≤ os.length → (∃ st, rdGo rd0 (os.take i) = .inr st) ∨ ∃ k, rdAll os = .inl k ∧ k ≤ os.length := by
    intro i
    induction i with
    | zero => exact fun _ => .inl ⟨rd0, rfl⟩
    | succ i ih =>
      intro hi
      rcases ih (by omega) with ⟨st, e⟩ | h
      · have eo : os[i]? = some os[i] := List.getElem?_eq_getElem (by omega)
        have p := (S.wf i st (by omega) e).2
        cases hn : scNext st.1 os[i] with
        | none => exact .inr ⟨_, rd_stop e eo hn, by omega⟩
        | some r => exact .inl ⟨_, rd_step e eo hn⟩
      · exact .inr h
  rcases key os.length (Nat.le_refl _) with ⟨st, e⟩ | ⟨k2, e, l⟩
  · have p := (S.wf os.length st (Nat.le_refl _) e).2
    rw [List.take_length] at e
    unfold rdAll at h
    rw [e] at h
    have h : (if st.1.wt = "nothing" then Sum.inr (st.2.val.getD (.ls [])) else Sum.inl st.1.pl : Nat ⊕ Vl) = .inl k := h
    by_cases w : st.1.wt = "nothing"
    · rw [if_pos w] at h
      cases h
    · rw [if_neg w] at h
      cases h
      omega
  · rw [e] at h
    cases h
    exact l

/-! ### any text is read -/
theorem ch_of {o : List Addr} {H H' : Hp} (w : Ow o H H') (t : Tk H H') : Ch o H H' := fun x u h n => by
  by_cases m : x ∈ o
  · obtain ⟨xs, rfl⟩ := n m
    exact t _ _ h
  · exact w x u m h
theorem ow_of {o : List Addr} {H H' : Hp} (c : Ch o H H') : Ow o H H' := fun x u n h => c x u h fun z => absurd z n



def sp__take_all (K : Frg) : Sp := sp2 fun p e H Q _ => ∃ b fl st cs q es, p = .ref b ∧ e = .ref q ∧ BAt K H b fl st cs ∧ EvL H q es ∧ st.okRun es ∧ q ∉ own b fl cs ∧ ∀ cs' H', BAt K H' b fl (st.run es) cs' → (∀ x ∈ own b fl cs', x ∈ own b fl cs ∨ H x = none) → Ch (own b fl cs) H H' → Q .non H'
def sp_value_of_text (K : Frg) : Sp := sp2 fun p o H Q E => ∃ (A : ScA) (a : Addr) (os : List Int), p = .ref A.a ∧ o = .ref a ∧ (H a = some (.lst (os.map V.int)) ∨ H a = some (.tup (os.map V.int))) ∧ a ∉ A.own ∧ ScAt K H A sc0 ∧ Safe os ∧
  (∀ t, rdAll os = .inr t → ∀ v H', Tp H' v t.dat → Ch A.own H H' → Q v H') ∧ (∀ k, rdAll os = .inl k → Razed K A.own H k E)
def sp_read_bencode (K : Frg) : Sp := sp1 fun o H Q E => ∃ (a : Addr) (os : List Int), o = .ref a ∧ (H a = some (.lst (os.map V.int)) ∨ H a = some (.tup (os.map V.int))) ∧ Safe os ∧
  (∀ t, rdAll os = .inr t → ∀ v H', Tp H' v t.dat → Same H H' → Q v H') ∧ (∀ k, rdAll os = .inl k → Razed K [] H k E)
section
variable {P : Program} {w : World} {K : PySem.W.Frag} {mg : Str → Option Value} {base : Heap} {f : Addr} {fd : FuncData}
theorem ok__take_all (F : FunD K "_take_all" "_take_all" (defArgs s__take_all) (defBody s__take_all) (defScope s__take_all) [] [] (glAd "_take_all" K) fd) (m : mg "_take_all" = some (.ref (glAd "_take_all" K))) (nb : Nm K mg) (m_Builder_take : Met P w K mg base 3 (C_Builder K) "take" (sp_Builder_take K) []) : Cal P w K mg base 4 "_take_all" (sp__take_all K) [] := by
  refine calD F m sc__take_all (fun _ _ _ _ _ _ us hl => match us, hl with | [_, _], _ => rfl) len2 (fun cdv A outer s H vs Q E hr h => ⟨_, (pss_one (ps_for PassesOwn.never rfl (pi_list (pv 1)) (pg_name (i := 2) sc__take_all.nd rfl (Or.inl rfl))
    (pss_one (ps_expr (pe_mt m_Builder_take hr (by decide) (pv 0) (pa_cons (pv 2) pa_nil)))))), ?_⟩)
  obtain ⟨_, _, rfl, b, fl, st, cs, q, es, rfl, rfl, B, ⟨vs, hq, tp⟩, ok, nq, h⟩ := h
  walk_at "rd"
  refine ⟨q, rfl, ⟨vs, SqL.of hq⟩, ?_⟩
  have vl : vs.length = es.length := evl_len tp
  refine r_eachL (xs := vs) (fun i σ H' => ∃ (cs' : List Cf) (y : Option V), BAt K H' b fl (st.run (es.take i)) cs' ∧ (∀ x ∈ own b fl cs', x ∈ own b fl cs ∨ H x = none) ∧ Ch (own b fl cs) H H' ∧ σ = [some (.ref b), some (.ref q), y]) ⟨cs, _, B, fun x hx => .inl hx, Ch.refl, rfl⟩ (fun i σ H' hh => ?_) ?_ ?_
  · obtain ⟨_, _, _, _, c, _⟩ := hh
    exact SqL.of (c.get nq hq)
  · rintro i x σ H' hx ⟨cs', y, B', fr, c, rfl⟩
    obtain ⟨d, hd1, hd2⟩ := tpAll_get tp hx
    unfold evD at hd1
    rw [List.getElem?_map] at hd1
    obtain ⟨ev, hev, rfl⟩ := Option.map_eq_some_iff.mp hd1
    obtain ⟨val, vn⟩ := okRun_at es _ i _ ok hev
    obtain ⟨⟨dx, bv, hb, hbv⟩, _, _, _, _⟩ := id B'
    walk_at "rd"
    refine r_mget hb no_Builder_take ?_
    walk_at "rd"
    refine ⟨_, _, rfl, b, fl, _, cs', ev, rfl, B', Tp.tk c.tk _ _ hd2, val, vn, fun cs2 H2 B2 fr2 w2 t2 => ?_⟩
    walk_at "rd"
    refine ⟨cs2, _, by rw [run_take hev]; exact B2, fun x hx => ?_, (ch_of w2 t2).ch fr c, rfl⟩
    rcases fr2 x hx with z | z
    · exact fr x z
    · exact c.fresh z
  · rintro σ H' ⟨cs', y, B', fr, c, rfl⟩
    rw [vl, List.take_length] at B'
    walk_at "rd"
    exact h cs' H' B' fr c
theorem ok_value_of_text (F : FunD K "value_of_text" "value_of_text" (defArgs s_value_of_text) (defBody s_value_of_text) (defScope s_value_of_text) [] [] (glAd "value_of_text" K) fd) (m : mg "value_of_text" = some (.ref (glAd "value_of_text" K))) (nb : Nm K mg) (m_BencodeScanner_step : MetX P w K mg base 8 (C_BencodeScanner K) "step" (sp_BencodeScanner_step K)) (m_BencodeScanner_end : MetX P w K mg base 3 (C_BencodeScanner K) "end" (sp_BencodeScanner_end K)) (k_Builder : Mak P w K mg base 1 "Builder" (C_Builder K) (sp_Builder___init__ K) []) (c__take_all : Cal P w K mg base 4 "_take_all" (sp__take_all K) []) : CalX P w K mg base 9 "value_of_text" (sp_value_of_text K) := by
  refine calXD F m sc_value_of_text (fun _ _ _ _ _ _ us hl => match us, hl with | [_, _], _ => rfl) len2 (fun cdv A outer s H vs Q E hr h => ⟨_, (pss_cons (ps_set (i := 2) sc_value_of_text.nd rfl (Or.inl rfl) (pe_mk0 k_Builder hr (by decide) rfl))
    (pss_cons (ps_for (passes_of rfl) rfl (pi_or (pi_list (pv 1)) (pi_tup (pv 1))) (pg_name (i := 3) sc_value_of_text.nd rfl (Or.inl rfl))
    (pss_one (ps_expr (pe_c c__take_all hr (by decide) rfl (pa_cons (pv 2) (pa_cons (pe_mtX m_BencodeScanner_step hr (by decide) (takes_of rfl rfl rfl rfl) (pv 0) (pa_cons (pv 3) pa_nil)) pa_nil))))))
    (pss_cons (ps_expr (pe_c c__take_all hr (by decide) rfl (pa_cons (pv 2) (pa_cons (pe_mtX0 m_BencodeScanner_end hr (by decide) (takes_of rfl rfl rfl rfl) (pv 0)) pa_nil))))
    (pss_one (ps_ret (pe_fld (pv 2) rfl)))))), ?_⟩)
  obtain ⟨_, _, rfl, A, a, os, rfl, rfl, ha, na, hA, hS, h, hr⟩ := h
  walk_at "rf"
  refine d_builder fun b fl H1 nb_ nfl B s1 => ?_
  walk_at "rf"
  have fb0 : ∀ x ∈ own b fl [], x ∈ A.own ∨ H x = none := fun x hx => by
    have hx : x = b ∨ x = fl := by simpa [own, ownC] using hx
    rcases hx with e | e <;> rw [e]
    · exact .inr nb_
    · exact .inr nfl
  have dj0 : ∀ x ∈ A.own, x ∉ own b fl [] := fun x hx hz => by
    obtain ⟨u, hu⟩ := hA.some x hx
    have hx : x = b ∨ x = fl := by simpa [own, ownC] using hz
    rcases hx with e | e
    · rw [e, nb_] at hu
      cases hu
    · rw [e, nfl] at hu
      cases hu
  rcases ha with ha | ha
  · refine .inl ?_
    walk_at "rf"
    refine ⟨a, rfl, ⟨_, SqL.of (s1 _ _ ha)⟩, ?_⟩
    refine r_eachL (xs := os.map V.int) (fun i σ H' => ∃ (A' : ScA) (cs : List Cf) (y : Option V) (st : Sc × Bs), A'.a = A.a ∧ rdGo rd0 (os.take i) = .inr st ∧ ScAt K H' A' st.1 ∧ BAt K H' b fl st.2 cs ∧ (∀ x ∈ A'.own, x ∉ own b fl cs) ∧ (∀ x ∈ A'.own, x ∈ A.own ∨ H x = none) ∧ (∀ x ∈ own b fl cs, x ∈ A.own ∨ H x = none) ∧ Ch A.own H H' ∧ σ = [some (.ref A.a), some (.ref a), some (.ref b), y]) ⟨A, [], _, rd0, rfl, rfl, hA.get (Ch.same (o := []) s1 Ch.refl) (by simp), B, dj0, fun x hx => .inl hx, fb0, Ch.same s1 Ch.refl, rfl⟩ (fun i σ H' hh => ?_) ?_ ?_
    · obtain ⟨_, _, _, _, _, _, _, _, _, _, _, c, _⟩ := hh
      exact SqL.of (c.get na ha)
    · rintro i x σ H2 hx ⟨A', cs, y, st, ea, est, hA2, B2, dj, fa, fb, c2, rfl⟩
      obtain ⟨o, ho, rfl, _⟩ := ints_get hx
      have hi := (List.getElem?_eq_some_iff.mp ho).1
      obtain ⟨wf, _⟩ := hS.wf i st (by omega) est
      obtain ⟨⟨dA, hA1⟩, _, _, _⟩ := id hA2
      rw [ea] at hA1
      walk_at "rf"
      refine ⟨_, _, rfl, A', st.1, o, congrArg V.ref ea.symm, rfl, hA2, wf, fun es s' hn A3 q H3 ea3 fr3 hA3 hE nx nxo c3 => ?_, fun hn => ?_⟩
      · have B3 := B2.away (ow_of c3) c3.tk (fun x hx z => dj x z hx)
        have live2 := B2.live
        have nq : q ∉ own b fl cs := fun z => by
          obtain ⟨u, hu⟩ := live2 q z
          rw [nx] at hu
          cases hu
        have okw := hS.ok i st o es s' ho est hn
        walk_at "rf"
        refine ⟨_, _, rfl, b, fl, _, cs, q, _, rfl, rfl, B3, hE, okw, nq, fun cs4 H4 B4 fr4 c4 => ?_⟩
        walk_at "rf"
        have c23 : Ch A.own H H3 := c3.ch fa c2
        have d3 : ∀ x ∈ A3.own, x ∉ own b fl cs := fun z hz hz2 => by
          rcases fr3 z hz with q | q
          · exact dj z q hz2
          · obtain ⟨u, hu⟩ := live2 z hz2
            rw [q] at hu
            cases hu
        refine ⟨A3, cs4, _, (s', st.2.run es), ea3.trans ea, rd_step est ho hn, hA3.get c4 d3, B4, fun z hz hz2 => ?_, fun z hz => ?_, fun z hz => ?_, c4.ch fb c23, rfl⟩
        · rcases fr4 z hz2 with q | q
          · exact d3 z hz q
          · obtain ⟨u, hu⟩ := hA3.some z hz
            rw [q] at hu
            cases hu
        · rcases fr3 z hz with q | q
          · exact fa z q
          · exact c2.fresh q
        · rcases fr4 z hz with q | q
          · exact fb z q
          · exact c23.fresh q
      · exact fun d H' hd k => hr _ (rd_stop est ho hn) d H' hd (k.ch fa c2)
    · rintro σ H2 ⟨A', cs, y, st, ea, est, hA2, B2, dj, fa, fb, c2, rfl⟩
      rw [List.length_map, List.take_length] at est
      obtain ⟨⟨dA, hA1⟩, _, _, _⟩ := id hA2
      rw [ea] at hA1
      have er : rdAll os = (if st.1.wt = "nothing" then .inr (st.2.val.getD (.ls [])) else .inl st.1.pl) := by
        unfold rdAll
        rw [est]
        rfl
      walk_at "rf"
      refine ⟨_, rfl, A', st.1, congrArg V.ref ea.symm, hA2, fun w q H3 nq gq sb => ?_, fun w => fun d H' hd k => hr _ (by rw [er, if_neg w]) d H' hd (k.ch fa c2)⟩
      obtain ⟨t, hv⟩ := hS.en st est w
      have rt : rdAll os = .inr t := by
        rw [er, if_pos w, hv]
        rfl
      have B3 := B2.away (o := []) (ow_of (Ch.same sb Ch.refl)) (Same.tk sb) (fun x hx => by simp)
      have live2 := B2.live
      walk_at "rf"
      refine ⟨_, _, rfl, b, fl, _, cs, q, [], rfl, rfl, B3, ⟨[], gq, .nil⟩, trivial, fun z => ?_, fun cs4 H4 B4 fr4 c4 => ?_⟩
      · obtain ⟨u, hu⟩ := live2 q z
        rw [nq] at hu
        cases hu
      obtain ⟨⟨dx, bv, hb, hbv⟩, _, _, _, _⟩ := id B4
      have hbv : ValAt H4 bv st.2.val := hbv
      rw [hv] at hbv
      walk_at "rf"
      exact h t rt _ H4 hbv (c4.ch fb (Ch.same sb c2))
  · refine .inr ?_
    walk_at "rf"
    refine ⟨a, rfl, ⟨_, SqT.of (s1 _ _ ha)⟩, ?_⟩
    refine r_eachT (xs := os.map V.int) (fun i σ H' => ∃ (A' : ScA) (cs : List Cf) (y : Option V) (st : Sc × Bs), A'.a = A.a ∧ rdGo rd0 (os.take i) = .inr st ∧ ScAt K H' A' st.1 ∧ BAt K H' b fl st.2 cs ∧ (∀ x ∈ A'.own, x ∉ own b fl cs) ∧ (∀ x ∈ A'.own, x ∈ A.own ∨ H x = none) ∧ (∀ x ∈ own b fl cs, x ∈ A.own ∨ H x = none) ∧ Ch A.own H H' ∧ σ = [some (.ref A.a), some (.ref a), some (.ref b), y]) ⟨A, [], _, rd0, rfl, rfl, hA.get (Ch.same (o := []) s1 Ch.refl) (by simp), B, dj0, fun x hx => .inl hx, fb0, Ch.same s1 Ch.refl, rfl⟩ (fun i σ H' hh => ?_) ?_ ?_
    · obtain ⟨_, _, _, _, _, _, _, _, _, _, _, c, _⟩ := hh
      exact SqT.of (c.get na ha)
    · rintro i x σ H2 hx ⟨A', cs, y, st, ea, est, hA2, B2, dj, fa, fb, c2, rfl⟩
      obtain ⟨o, ho, rfl, _⟩ := ints_get hx
      have hi := (List.getElem?_eq_some_iff.mp ho).1
      obtain ⟨wf, _⟩ := hS.wf i st (by omega) est
      obtain ⟨⟨dA, hA1⟩, _, _, _⟩ := id hA2
      rw [ea] at hA1
      walk_at "rf"
      refine ⟨_, _, rfl, A', st.1, o, congrArg V.ref ea.symm, rfl, hA2, wf, fun es s' hn A3 q H3 ea3 fr3 hA3 hE nx nxo c3 => ?_, fun hn => ?_⟩
      · have B3 := B2.away (ow_of c3) c3.tk (fun x hx z => dj x z hx)
        have live2 := B2.live
        have nq : q ∉ own b fl cs := fun z => by
          obtain ⟨u, hu⟩ := live2 q z
          rw [nx] at hu
          cases hu
        have okw := hS.ok i st o es s' ho est hn
        walk_at "rf"
        refine ⟨_, _, rfl, b, fl, _, cs, q, _, rfl, rfl, B3, hE, okw, nq, fun cs4 H4 B4 fr4 c4 => ?_⟩
        walk_at "rf"
        have c23 : Ch A.own H H3 := c3.ch fa c2
        have d3 : ∀ x ∈ A3.own, x ∉ own b fl cs := fun z hz hz2 => by
          rcases fr3 z hz with q | q
          · exact dj z q hz2
          · obtain ⟨u, hu⟩ := live2 z hz2
            rw [q] at hu
            cases hu
        refine ⟨A3, cs4, _, (s', st.2.run es), ea3.trans ea, rd_step est ho hn, hA3.get c4 d3, B4, fun z hz hz2 => ?_, fun z hz => ?_, fun z hz => ?_, c4.ch fb c23, rfl⟩
        · rcases fr4 z hz2 with q | q
          · exact d3 z hz q
          · obtain ⟨u, hu⟩ := hA3.some z hz
            rw [q] at hu
            cases hu
        · rcases fr3 z hz with q | q
          · exact fa z q
          · exact c2.fresh q
        · rcases fr4 z hz with q | q
          · exact fb z q
          · exact c23.fresh q
      · exact fun d H' hd k => hr _ (rd_stop est ho hn) d H' hd (k.ch fa c2)
    · rintro σ H2 ⟨A', cs, y, st, ea, est, hA2, B2, dj, fa, fb, c2, rfl⟩
      rw [List.length_map, List.take_length] at est
      obtain ⟨⟨dA, hA1⟩, _, _, _⟩ := id hA2
      rw [ea] at hA1
      have er : rdAll os = (if st.1.wt = "nothing" then .inr (st.2.val.getD (.ls [])) else .inl st.1.pl) := by
        unfold rdAll
        rw [est]
        rfl
      walk_at "rf"
      refine ⟨_, rfl, A', st.1, congrArg V.ref ea.symm, hA2, fun w q H3 nq gq sb => ?_, fun w => fun d H' hd k => hr _ (by rw [er, if_neg w]) d H' hd (k.ch fa c2)⟩
      obtain ⟨t, hv⟩ := hS.en st est w
      have rt : rdAll os = .inr t := by
        rw [er, if_pos w, hv]
        rfl
      have B3 := B2.away (o := []) (ow_of (Ch.same sb Ch.refl)) (Same.tk sb) (fun x hx => by simp)
      have live2 := B2.live
      walk_at "rf"
      refine ⟨_, _, rfl, b, fl, _, cs, q, [], rfl, rfl, B3, ⟨[], gq, .nil⟩, trivial, fun z => ?_, fun cs4 H4 B4 fr4 c4 => ?_⟩
      · obtain ⟨u, hu⟩ := live2 q z
        rw [nq] at hu
        cases hu
      obtain ⟨⟨dx, bv, hb, hbv⟩, _, _, _, _⟩ := id B4
      have hbv : ValAt H4 bv st.2.val := hbv
      rw [hv] at hbv
      walk_at "rf"
      exact h t rt _ H4 hbv (c4.ch fb (Ch.same sb c2))
theorem ok_read_bencode (F : FunD K "read_bencode" "read_bencode" (defArgs s_read_bencode) (defBody s_read_bencode) (defScope s_read_bencode) [] [] (glAd "read_bencode" K) fd) (m : mg "read_bencode" = some (.ref (glAd "read_bencode" K))) (nb : Nm K mg) (k_BencodeScanner : Mak P w K mg base 3 "BencodeScanner" (C_BencodeScanner K) (sp_BencodeScanner___init__ K) []) (c_value_of_text : CalX P w K mg base 9 "value_of_text" (sp_value_of_text K)) : CalX P w K mg base 10 "read_bencode" (sp_read_bencode K) := by
  refine calXD F m sc_read_bencode (fun _ _ _ _ _ _ us hl => match us, hl with | [_], _ => rfl) len1 (fun cdv A outer s H vs Q E hr h => ⟨_, (pss_one (ps_ret (pe_cX c_value_of_text hr (by decide) rfl (takes_of rfl rfl rfl rfl) (pa_cons (pe_mk0 k_BencodeScanner hr (by decide) rfl) (pa_cons (pv 0) pa_nil))))), ?_⟩)
  obtain ⟨_, rfl, a, os, rfl, ha, hS, h, hr⟩ := h
  walk_at "rf"
  refine d_bscan fun A H1 nA hA s1 => ?_
  walk_at "rf"
  refine ⟨_, _, rfl, A, a, os, rfl, rfl, ha.imp (s1 _ _) (s1 _ _), fun z => ?_, hA, hS, fun t e v H' tp c => h t e v H' tp fun x u hx => ?_, fun k e d H' hd c => hr k e d H' hd (c.ch (fun x hx => .inr (nA x hx)) (Ch.same s1 Ch.refl))⟩
  · have := nA a z
    rcases ha with ha | ha <;> rw [ha] at this <;> cases this
  · exact c.get (fun z => by rw [nA x z] at hx; cases hx) (s1 _ _ hx)
end

/-! ### the digits of a number, as texts -/
section
open PySem.NumText
def dg (n : Nat) : List Nat := (Nat.toDigits 10 n).map Char.toNat
theorem str_dg (n : Nat) : Str.ofString (toString ((n : Nat) : Int)) = S (dg n) := (S_tl _).symm.trans (congrArg S (PySem.W.KIN.signs_num n))
theorem str_dgI {i : Int} (h : 0 ≤ i) : Str.ofString (toString i) = S (dg i.toNat) := by
  have e : ((i.toNat : Nat) : Int) = i := Int.toNat_of_nonneg h
  rw [← str_dg, e]
theorem dgc (d : Nat) (h : d < 10) : (Nat.digitChar d).toNat = 48 + d := by
  revert d
  decide
theorem dg_lt {d : Nat} (h : d < 10) : dg d = [48 + d] := by
  unfold dg
  rw [Nat.toDigits_of_lt_base h]
  show [(Nat.digitChar d).toNat] = _
  rw [dgc d h]
theorem dg_step {n : Nat} (h : 10 ≤ n) : dg n = dg (n / 10) ++ [48 + n % 10] := by
  have hm : n % 10 < 10 := Nat.mod_lt n (by decide)
  have t : Nat.toDigits 10 (n / 10) ++ Nat.toDigits 10 (n % 10) = Nat.toDigits 10 (10 * (n / 10) + n % 10) := Nat.toDigits_append_toDigits (by decide) (by omega) hm
  rw [Nat.div_add_mod] at t
  unfold dg
  rw [← t, List.map_append, Nat.toDigits_of_lt_base hm]
  show _ ++ [(Nat.digitChar (n % 10)).toNat] = _
  rw [dgc _ hm]
theorem dg_val (n : Nat) : digitsVal (dg n) = n := PySem.W.KIN.val_back n
theorem dg_all (n : Nat) : AllDigits (dg n) := by
  induction n using Nat.strongRecOn with
  | _ n ih =>
    by_cases h : n < 10
    · rw [dg_lt h]
      intro c hc
      have e : c = 48 + n := by simpa using hc
      omega
    · rw [dg_step (by omega)]
      intro c hc
      rcases List.mem_append.mp hc with hc | hc
      · exact ih (n / 10) (by omega) c hc
      · have e : c = 48 + n % 10 := by simpa using hc
        omega
theorem dg_pos (n : Nat) : 0 < (dg n).length := by
  by_cases h : n < 10
  · rw [dg_lt h]
    exact Nat.one_pos
  · rw [dg_step (by omega), List.length_append]
    show 0 < _ + 1
    omega
theorem dg_ne (n : Nat) : dg n ≠ [] := fun e => by
  have := dg_pos n
  rw [e] at this
  cases this
theorem dg_len : ∀ (k n : Nat), n < 10 ^ (k + 1) → (dg n).length ≤ k + 1
  | 0, n, h => by
    rw [dg_lt (by simpa using h)]
    exact Nat.le_refl _
  | k + 1, n, h => by
    by_cases c : n < 10
    · rw [dg_lt c]
      show 1 ≤ _
      omega
    · rw [dg_step (by omega), List.length_append]
      have := dg_len k (n / 10) (by rw [Nat.pow_succ] at h; omega)
      show _ + 1 ≤ _
      omega
theorem dg_lenP {k n : Nat} (h : n < 10 ^ k) : (dg n).length ≤ k + 1 := dg_len k n (Nat.lt_of_lt_of_le h (Nat.pow_le_pow_right (by decide) (Nat.le_succ k)))
/-- k digits of r -/
def pad : Nat → Nat → List Nat
  | 0, _ => []
  | k + 1, r => pad k (r / 10) ++ [48 + r % 10]
theorem pad_len : ∀ (k r : Nat), (pad k r).length = k
  | 0, _ => rfl
  | k + 1, r => by
    show (pad k (r / 10) ++ [48 + r % 10]).length = _
    rw [List.length_append, pad_len k]
    rfl
theorem pad_zero : ∀ k : Nat, pad k 0 = List.replicate k 48
  | 0 => rfl
  | k + 1 => by
    show pad k 0 ++ [48] = _
    rw [pad_zero k, List.replicate_succ']
theorem dg_pad : ∀ (k q r : Nat), 0 < q → r < 10 ^ k → dg (q * 10 ^ k + r) = dg q ++ pad k r
  | 0, q, r, _, h => by
    have e : r = 0 := by
      have : (10 : Nat) ^ 0 = 1 := rfl
      omega
    rw [e, Nat.pow_zero, Nat.mul_one, Nat.add_zero]
    exact (List.append_nil _).symm
  | k + 1, q, r, hq, h => by
    have hp : 0 < 10 ^ k := Nat.pow_pos (by decide)
    have e10 : q * 10 ^ (k + 1) = 10 * (q * 10 ^ k) := by
      rw [Nat.pow_succ, ← Nat.mul_assoc, Nat.mul_comm]
    have hge : 1 ≤ q * 10 ^ k := Nat.mul_pos hq hp
    have hr : r / 10 < 10 ^ k := by
      rw [Nat.pow_succ] at h
      omega
    rw [e10, dg_step (by omega), show (10 * (q * 10 ^ k) + r) / 10 = q * 10 ^ k + r / 10 by omega, show (10 * (q * 10 ^ k) + r) % 10 = r % 10 by omega, dg_pad k q (r / 10) hq hr, List.append_assoc]
    rfl
theorem zf : ∀ (k r : Nat), r < 10 ^ (k + 1) → List.replicate (k + 1 - (dg r).length) 48 ++ dg r = pad (k + 1) r
  | 0, r, h => by
    have h : r < 10 := by simpa using h
    rw [dg_lt h]
    show [48 + r] = [48 + r % 10]
    rw [Nat.mod_eq_of_lt h]
  | k + 1, r, h => by
    by_cases c : r < 10
    · rw [dg_lt c]
      show List.replicate (k + 1 + 1 - 1) 48 ++ [48 + r] = pad (k + 1) (r / 10) ++ [48 + r % 10]
      rw [Nat.div_eq_of_lt c, Nat.mod_eq_of_lt c, pad_zero]
      rfl
    · have h2 : r / 10 < 10 ^ (k + 1) := by
        rw [Nat.pow_succ] at h
        omega
      rw [dg_step (by omega), List.length_append]
      show List.replicate (k + 1 + 1 - (_ + 1)) 48 ++ (_ ++ _) = pad (k + 1) (r / 10) ++ [48 + r % 10]
      rw [Nat.add_sub_add_right, ← List.append_assoc, zf k (r / 10) h2]
theorem dg_first (n : Nat) : ∃ c r, dg n = c :: r ∧ 48 ≤ c ∧ c ≤ 57 := by
  cases e : dg n with
  | nil => exact absurd e (dg_ne n)
  | cons c r =>
    have h := dg_all n c (by rw [e]; exact List.mem_cons_self ..)
    exact ⟨c, r, rfl, h⟩
theorem zfill_dg {k r : Nat} (h : r < 10 ^ (k + 1)) : Txt.zfill (S (dg r)) ((k + 1 : Nat) : Int) = S (pad (k + 1) r) := by
  have hl : (S (dg r)).length = (dg r).length := S_len _
  have hk := dg_len k r h
  rw [← zf k r h]
  unfold Txt.zfill
  rw [hl]
  by_cases c : (((k + 1 : Nat) : Int) ≤ ((dg r).length : Int))
  · rw [if_pos c, show k + 1 - (dg r).length = 0 by omega]
    rfl
  · rw [if_neg c]
    obtain ⟨d, t, e, h1, h2⟩ := dg_first r
    have e0 : (S (dg r)).cps[0]? = some d := by
      rw [e]
      rfl
    have e1 : zfilled (S (dg r)) (((k + 1 : Nat) : Int).toNat - (dg r).length) = Builtin.Str.padded (S (dg r)) (((k + 1 : Nat) : Int).toNat - (dg r).length) 0 48 := by
      unfold zfilled
      rw [e0]
      split
      · rename_i q
        cases q
        omega
      · rename_i q
        cases q
        omega
      · rfl
    rw [e1]
    unfold Builtin.Str.padded S
    rw [Int.toNat_natCast]
    congr 1
    apply Array.ext'
    simp
theorem dval_rep (d : List Nat) : ∀ k : Nat, digitsVal (d ++ List.replicate k 48) = digitsVal d * 10 ^ k
  | 0 => by simp
  | k + 1 => by
    rw [List.replicate_succ', ← List.append_assoc, digitsVal_snoc, dval_rep d k, Nat.pow_succ, Nat.sub_self, Nat.add_zero, Nat.mul_assoc]
theorem dval_zeros (d : List Nat) : ∀ k : Nat, digitsVal (List.replicate k 48 ++ d) = digitsVal d
  | 0 => rfl
  | k + 1 => by
    rw [List.replicate_succ, List.cons_append, digitsVal_zero]
    exact dval_zeros d k
theorem all_rep (k : Nat) : AllDigits (List.replicate k 48) := fun c hc => by
  have e := List.eq_of_mem_replicate hc
  omega
theorem all_app {a b : List Nat} (h1 : AllDigits a) (h2 : AllDigits b) : AllDigits (a ++ b) := fun c hc => by
  rcases List.mem_append.mp hc with h | h
  · exact h1 c h
  · exact h2 c h
/-- int(text) of a text of digits, with a sign -/
theorem int_dig {d : List Nat} (h : AllDigits d) (h1 : d ≠ []) (h2 : d.length ≤ 4300) : intText? (S d) = some ((digitsVal d : Nat) : Int) :=
  intText_digits (x := S d) h h1 (by rw [S_len]; exact h2)
theorem int_neg {d : List Nat} (h : AllDigits d) (h1 : d ≠ []) (h2 : d.length < 4300) : intText? (S (45 :: d)) = some (-((digitsVal d : Nat) : Int)) :=
  intText_neg (x := S (45 :: d)) rfl h h1 (by rw [S_len]; exact h2)
theorem int_plus {d : List Nat} (h : AllDigits d) (h1 : d ≠ []) (h2 : d.length < 4300) : intText? (S (43 :: d)) = some ((digitsVal d : Nat) : Int) := by
  have hs : ∀ c ∈ (S (43 :: d)).cps.toList, 33 ≤ c ∧ c < 128 := fun c hc => by
    have hc : c ∈ 43 :: d := hc
    rcases List.mem_cons.mp hc with e | e
    · omega
    · have := h c e
      omega
  have e1 : numTextOf (S (43 :: d)) = 43 :: d := by
    refine if_pos ?_
    rw [← Array.all_toList, List.all_eq_true]
    intro c hc
    exact decide_eq_true (hs c hc).2
  have e2 : numSeenOf (S (43 :: d)) = 43 :: d := by
    show (numTextOf (S (43 :: d))).takeWhile _ = _
    rw [e1]
    refine takeWhile_all fun c hc => ?_
    have := hs c hc
    exact bne_iff_ne.mpr (by omega)
  unfold intText?
  rw [e1, e2, if_pos (beq_self_eq_true _)]
  have e3 : (43 :: d).dropWhile blank = 43 :: d := dropWhile_of (by decide)
  have ec : core (43 :: d) = d := by
    unfold core
    rw [e3]
    show (d.reverse.dropWhile blank).reverse = d
    rw [dropWhile_digits h.reverse, List.reverse_reverse]
  rw [ec, e3, digits_of h h1]
  have hsz := push_size d #[]
  have hv := push_foldl d #[]
  show (if _ ≤ 4300 then some (worth false _) else none) = _
  rw [if_pos (by rw [hsz]; simp only [Array.size_empty]; omega)]
  unfold worth digitsVal
  rw [hv]
  rfl
/-- find of one sign -/
theorem find_none {l : List Nat} {c : Nat} (h : c ∉ l) : Txt.find (S l) (S [c]) = -1 := by
  rcases PyProof.Rows.find_whole (S l) (S [c]) with ⟨e, _⟩ | ⟨i, e, ⟨h1, h2⟩, _⟩
  · exact e
  · exfalso
    unfold Builtin.Str.subAt at h2
    have h3 := congrArg Array.toList (eq_of_beq h2)
    have h4 : ((l.drop i).take 1) = [c] := by
      simpa [S, Str.length] using h3
    have h5 : c ∈ (l.drop i).take 1 := by
      rw [h4]
      exact List.mem_singleton.mpr rfl
    exact h (List.mem_of_mem_drop (List.mem_of_mem_take h5))
theorem find_at {l r : List Nat} {c : Nat} (h : c ∉ l) : Txt.find (S (l ++ c :: r)) (S [c]) = (l.length : Int) := by
  have at_iff : ∀ i : Nat, StrLaws.At (S (l ++ c :: r)) (S [c]) (S (l ++ c :: r)).length i ↔ (l ++ c :: r)[i]? = some c := fun i => by
    unfold StrLaws.At Builtin.Str.subAt
    rw [beq_iff_eq, S_len, S_len]
    constructor
    · rintro ⟨h1, h2⟩
      have h3 := congrArg Array.toList h2
      have h4 : ((l ++ c :: r).drop i).take 1 = [c] := by
        simpa [S, Str.length] using h3
      have h5 := congrArg (fun z : List Nat => z[0]?) h4
      simpa [List.getElem?_take, List.getElem?_drop] using h5
    · intro h1
      obtain ⟨hi, e⟩ := List.getElem?_eq_some_iff.mp h1
      refine ⟨hi, ?_⟩
      apply Array.ext'
      have h4 : ((l ++ c :: r).drop i).take 1 = [c] := by
        rw [List.drop_eq_getElem_cons hi, e]
        rfl
      simpa [S, Str.length] using h4
  rcases PyProof.Rows.find_whole (S (l ++ c :: r)) (S [c]) with ⟨_, hn⟩ | ⟨i, e, h1, h2⟩
  · exact absurd ((at_iff l.length).mpr (by simp)) (hn l.length)
  · rw [e]
    have h1 := (at_iff i).mp h1
    have h3 : i = l.length := by
      rcases Nat.lt_trichotomy i l.length with q | q | q
      · rw [List.getElem?_append_left q] at h1
        exact absurd (List.mem_of_getElem? h1) h
      · exact q
      · exact absurd ((at_iff l.length).mpr (by simp)) (h2 _ q)
    rw [h3]
end

/-! ### texts: str and int of great numbers, a sign many times, join of a row turned round -/
section
open PyProof.Rows
theorem noDig {K : Frg} {h : Heap} (X : K.In h) (e : DigK K) : h.NoDigits := by
  have G := Heap.Ns.of_isNs (PySem.W.isNs_of_in X e.1)
  exact ⟨_, G, PySem.W.ns_none_of X G e.2⟩
theorem call_strW {X : Cx} (hc : X.calm = true) (e : DigK X.K) : CallR X (.type "str") (fun xs H Q => ∃ i : Int, xs = [.int i] ∧ i.natAbs < 10 ^ 4300 ∧ Q (.str (Str.ofString (toString i))) H) := by
  intro pins s σ H xs us Q I r h
  obtain ⟨i, rfl, hz, q⟩ := h
  obtain ⟨u, rfl, t, rfl⟩ := vals1 r
  exact str_of_int_or (I.ok.hd hc) (noDig I.kIn e) (fun _ => ⟨.str _, H, I.tok _, ⟨_, rfl⟩, q⟩) fun h => absurd h (by generalize 10 ^ 4300 = P at *; omega)
theorem op_repS {X : Cx} : OpR X (binaryOp .Mult) (fun x y H Q => ∃ (c : Nat) (n : Int), x = .str (S [c]) ∧ y = .int n ∧ -100000 ≤ n ∧ n ≤ 100000 ∧ Q (.str (S (List.replicate n.toNat c))) H) := by
  intro pins s σ H x y v u Q I rx ry h
  obtain ⟨c, n, rfl, rfl, h0, h1, q⟩ := h
  obtain ⟨t, rfl⟩ := rx
  obtain ⟨t', rfl⟩ := ry
  refine PySem.SB.mul (mulOk_of 1 100000 (Nat.le_refl 1) (by omega) (by omega) (by decide) (by decide)) fun t' k => ⟨.str _, H, I.tok _, ⟨_, rfl⟩, ?_⟩
  have e : Txt.mul (S [c]) n = S (List.replicate n.toNat c) := by
    unfold Txt.mul
    by_cases c1 : n < 1
    · rw [if_pos c1, show n.toNat = 0 by omega]
      rfl
    · rw [if_neg c1]
      by_cases c2 : n = 1
      · subst c2
        rfl
      · have b : (n == 1 || (S [c]).length == 0) = false := by
          have : (n == 1) = false := by simpa using c2
          rw [this]
          rfl
        rw [b, if_neg Bool.false_ne_true]
        have g : ∀ (k : Nat) (a : Array Nat), (List.replicate k (S [c]).cps).foldl (· ++ ·) a = a ++ (List.replicate k c).toArray := by
          intro k
          induction k with
          | zero => intro a; simp
          | succ k ih =>
            intro a
            rw [List.replicate_succ, List.foldl_cons, ih, List.replicate_succ]
            apply Array.ext'
            simp [S]
        rw [g]
        simp [S]
  rw [e]
  exact q
end
/-! readings -/
section
variable {σ : St} {H : Hp} {Q : VK} {K : Frg}
theorem r_addS {a b : List Nat} (hl : a.length + b.length ≤ 1000000) (h : Q (.str (S (a ++ b))) H) : ∃ i j, V.str (S a) = .str i ∧ V.str (S b) = .str j ∧ i.length + j.length ≤ sizeLine ∧ Q (.str (i ++ j)) H :=
  ⟨_, _, rfl, rfl, by rw [S_len, S_len, sizeLine_eq]; omega, by rw [S_cat]; exact h⟩
theorem r_ixS {a : List Nat} {i c : Nat} (hl : a.length ≤ 1000000) (e : a[i]? = some c) (h : Q (.str (S [c])) H) : rIxS (.str (S a)) (.int (i : Int)) H Q :=
  ⟨_, _, c, rfl, rfl, by rw [S_len, sizeLine_eq]; omega, atI_nat e, h⟩
theorem r_slS {a b : List Nat} {lo hi : Option Int} (hl : a.length ≤ 1000000) (e : cutS (S a) lo hi = S b) (h : Q (.str (S b)) H) : rSlS (.str (S a)) lo hi H Q :=
  ⟨_, rfl, by rw [S_len, sizeLine_eq]; omega, by rw [e]; exact h⟩
theorem cutS_from {a : List Nat} {i : Int} (h : 0 ≤ i) : cutS (S a) (some i) none = S (a.drop i.toNat) := by
  rw [C8.cutS_slice]
  exact slice_from h
theorem cutS_to {a : List Nat} {i : Int} (h : 0 ≤ i) : cutS (S a) none (some i) = S (a.take i.toNat) := by
  rw [C8.cutS_slice]
  exact slice_to h
theorem r_lenS {d : List Nat} {R : Str → Prop} (hl : d.length ≤ 1000000) (h : R (S d)) : ∃ z, [V.str (S d)] = [V.str z] ∧ z.length ≤ sizeLine ∧ R z :=
  ⟨_, rfl, by rw [S_len, sizeLine_eq]; omega, h⟩
theorem r_add {x y : Str} {a b : List Nat} {R : Str → Str → Prop} (ex : x = S a) (ey : y = S b) (hl : a.length + b.length ≤ 1000000) (h : R (S a) (S b)) : ∃ i j, V.str x = .str i ∧ V.str y = .str j ∧ i.length + j.length ≤ sizeLine ∧ R i j := by
  subst ex ey
  exact ⟨_, _, rfl, rfl, by rw [S_len, S_len, sizeLine_eq]; omega, h⟩
theorem r_rep {x : Str} {n : Int} {c : Nat} {R : Nat → Int → Prop} (ex : x = S [c]) (h0 : -100000 ≤ n) (h1 : n ≤ 100000) (h : R c n) : ∃ (c : Nat) (m : Int), V.str x = .str (S [c]) ∧ V.int n = .int m ∧ -100000 ≤ m ∧ m ≤ 100000 ∧ R c m :=
  ⟨c, n, by rw [ex], rfl, h0, h1, h⟩
theorem r_slF {a : List Nat} {i : Int} (h0 : 0 ≤ i) (hl : a.length ≤ 1000000) (h : Q (.str (S (a.drop i.toNat))) H) : rSlS (.str (S a)) (some i) none H Q := r_slS hl (cutS_from h0) h
theorem r_slT {a : List Nat} {i : Int} (h0 : 0 ≤ i) (hl : a.length ≤ 1000000) (h : Q (.str (S (a.take i.toNat))) H) : rSlS (.str (S a)) none (some i) H Q := r_slS hl (cutS_to h0) h
end

/-! ### what is written is scanned -/
open PySem.NumText in
def asc (x : List Nat) : List Int := x.map fun (c : Nat) => Int.ofNat c
def scStep (s : Sc) (o : Int) : Sc := { (scTake s o).2.2 with pl := (scTake s o).2.2.pl + 1 }
def Runs : Sc → List Int → List (List Ev) → Sc → Prop
  | s, [], [], t => t = s
  | s, o :: os, r :: rs, t => Wf s ∧ (scTake s o).1 = true ∧ (scTake s o).2.1 = r ∧ Runs (scStep s o) os rs t
  | _, [], _ :: _, _ => False
  | _, _ :: _, [], _ => False
theorem Runs.app : ∀ {a b : List Int} {ra rb : List (List Ev)} {s m t : Sc}, Runs s a ra m → Runs m b rb t → Runs s (a ++ b) (ra ++ rb) t
  | [], _, [], _, s, m, t, h1, h2 => by
    have h1 : m = s := h1
    subst h1
    exact h2
  | o :: os, _, r :: rs, _, s, m, t, h1, h2 => ⟨h1.1, h1.2.1, h1.2.2.1, Runs.app h1.2.2.2 h2⟩
  | [], _, _ :: _, _, _, _, _, h1, _ => h1.elim
  | _ :: _, _, [], _, _, _, _, h1, _ => h1.elim
theorem Runs.one {s : Sc} {o : Int} {r : List Ev} {t : Sc} (w : Wf s) (e : scTake s o = (true, r, t)) : Runs s [o] [r] { t with pl := t.pl + 1 } := by
  refine ⟨w, by rw [e], by rw [e], ?_⟩
  show _ = scStep s o
  unfold scStep
  rw [e]
/-- nothing is told for so many octets -/
def Nils (os : List Int) : List (List Ev) := List.replicate os.length []
theorem nils_app (a b : List Int) : Nils (a ++ b) = Nils a ++ Nils b := by
  unfold Nils
  rw [List.length_append, List.replicate_append_replicate]
/-- the levels are sound -/
def Lok (s : Sc) : Prop := (s.wt = "key" → s.lv ≠ []) ∧ s.lv.length ≤ 24 ∧ ∀ l ∈ s.lv, l.ks.length < sizeLine
theorem wf_no {s : Sc} (h : s.tk = .no) (l : Lok s) : Wf s := ⟨by rw [h]; trivial, by unfold scWant; rw [h]; trivial, l⟩
/-- a token that counts: bytes, or a key -/
def Wr (key : Bool) (c : Ct) : Tok := if key then .key ⟨c.d, c, u80⟩ else .cnt c
theorem wr_done (key : Bool) (c : Ct) : tokDone (Wr key c) = c.d := by cases key <;> rfl
theorem wr_no (key : Bool) (c : Ct) : Wr key c ≠ .no := by cases key <;> exact fun h => by cases h
theorem wr_take {key : Bool} {c : Ct} {o : Int} (hb : c.b = false) : tokTake (Wr key c) o = ((ctTake c o).1, Wr key (ctTake c o).2) ∨ (ctTake c o).1 = false := by
  cases e : (ctTake c o).1 with
  | false => exact .inr rfl
  | true =>
    left
    cases key with
    | false =>
      show ((ctTake c o).1, Tok.cnt (ctTake c o).2) = _
      rw [e]
      rfl
    | true =>
      show ((bkTake ⟨c.d, c, u80⟩ o).1, Tok.key (bkTake ⟨c.d, c, u80⟩ o).2) = _
      have e2 : bkTake ⟨c.d, c, u80⟩ o = bkFin c.d (ctTake c o).2 u80 := by
        unfold bkTake
        rw [if_neg (by rw [e]; decide), if_neg (by rw [hb]; decide)]
      rw [e2]
      show ((!(ctTake c o).2.d || !decide ((0 : Int) > 0)), _) = _
      rw [show (!decide ((0 : Int) > 0)) = true from rfl, Bool.or_true]
      rfl
theorem go_eq {s : Sc} (h : s.tk ≠ .no) (o : Int) : scTake s o = scGo s o := by
  unfold scTake
  cases hk : s.tk with
  | no => exact absurd hk h
  | num n => rfl
  | key n => rfl
  | cnt n => rfl
theorem go_step {s : Sc} {o : Int} {t : Tok} (h : s.tk ≠ .no) (e : tokTake s.tk o = (true, t)) (d : tokDone t = false) : scTake s o = (true, [], { s with tk := t }) := by
  rw [go_eq h]
  unfold scGo
  rw [e, if_neg (fun z => Bool.noConfusion z), if_pos d]
theorem go_end {s : Sc} {o : Int} {t : Tok} (h : s.tk ≠ .no) (e : tokTake s.tk o = (true, t)) (d : tokDone t = true) : scTake s o = scEndToken { s with tk := t } := by
  rw [go_eq h]
  unfold scGo
  rw [e, if_neg (fun z => Bool.noConfusion z), if_neg (by rw [d]; decide)]
/-- the place where a token of that kind is wanted -/
def At (key : Bool) (s : Sc) : Prop := s.wt ≠ "nothing" ∧ (key = true ↔ s.wt = "key")
theorem mark_dig {key : Bool} {s : Sc} {o : Int} (h : s.tk = .no) (a : At key s) (h1 : 48 ≤ o) (h2 : o ≤ 57) : scTake s o = scBegin s (Wr key ct0) o := by
  unfold scTake
  rw [h]
  show scMark s o = _
  unfold scMark
  rw [if_neg (by omega), if_neg a.1]
  cases key with
  | true =>
    rw [if_pos (a.2.mp rfl)]
    rfl
  | false =>
    rw [if_neg (fun z => by cases a.2.mpr z), if_neg (by omega), if_neg (by omega), if_neg (by omega)]
    rfl
theorem isDg_of {o : Int} (h1 : 48 ≤ o) (h2 : o ≤ 57) : isDg o = true := by
  unfold isDg
  rw [decide_eq_true h1, decide_eq_true h2]
  rfl
theorem ct_dig0 {o : Int} (h1 : 48 ≤ o) (h2 : o ≤ 57) : ctTake ct0 o = (true, ⟨false, false, [], some (o - 48)⟩) := by
  show ctCount ct0 o = _
  unfold ctCount
  rw [if_neg (fun z => z.2 rfl), if_neg (fun z => z.elim (fun z => by rw [isDg_of h1 h2] at z; cases z) (fun z => by cases z))]
  show (true, Ct.mk false false [] (some ((0 : Int) * 10 + o - 48))) = _
  rw [show (0 : Int) * 10 + o - 48 = o - 48 by omega]
theorem ct_dig {o k : Int} (h1 : 48 ≤ o) (h2 : o ≤ 57) (hk : k ≠ 0) : ctTake ⟨false, false, [], some k⟩ o = (true, ⟨false, false, [], some (k * 10 + o - 48)⟩) := by
  show ctCount ⟨false, false, [], some k⟩ o = _
  unfold ctCount
  rw [if_neg (fun z => by have := z.1; omega), if_neg (fun z => z.elim (fun z => by rw [isDg_of h1 h2] at z; cases z) (fun z => hk (Option.some.inj z)))]
  rfl
theorem ct_colon (k : Int) : ctTake ⟨false, false, [], some k⟩ 58 = (true, ⟨decide (k = 0), true, [], some k⟩) := by
  show ctCount ⟨false, false, [], some k⟩ 58 = _
  unfold ctCount
  rw [if_pos ⟨rfl, fun z => by cases z⟩]
  rfl
theorem wf_tok {key : Bool} {s : Sc} {c : Ct} {n : Nat} (a : At key s) (l : Lok s) (hb : c.b = true → ∃ k, c.m = some k) (hl : c.os.length < sizeLine) : Wf { s with tk := Wr key c, pl := n } := by
  refine ⟨?_, ?_, l⟩
  · cases key with
    | true => exact ⟨hb, hl, by show 0 < sizeLine; decide⟩
    | false => exact ⟨hb, hl⟩
  · cases key with
    | true => exact a.2.mp rfl
    | false => exact fun z => by cases a.2.mpr z
/-- a count -/
theorem run_count {key : Bool} {s : Sc} (h : s.tk = .no) (a : At key s) (l : Lok s) : ∀ n : Nat, ∃ pl, Runs s (asc (dg n)) (Nils (asc (dg n))) { s with tk := Wr key ⟨false, false, [], some (n : Int)⟩, pl := pl } := by
  intro n
  induction n using Nat.strongRecOn with
  | _ n ih =>
    by_cases c : n < 10
    · rw [dg_lt c]
      have e : scTake s (Int.ofNat (48 + n)) = (true, [], { s with tk := Wr key ⟨false, false, [], some (n : Int)⟩ }) := by
        have h1 : (48 : Int) ≤ Int.ofNat (48 + n) := by show (48 : Int) ≤ ((48 + n : Nat) : Int); omega
        have h2 : Int.ofNat (48 + n) ≤ 57 := by show ((48 + n : Nat) : Int) ≤ 57; omega
        rw [mark_dig h a h1 h2]
        unfold scBegin
        have e2 := ct_dig0 h1 h2
        rcases wr_take (key := key) (c := ct0) (o := Int.ofNat (48 + n)) rfl with e1 | e1
        · rw [e1, e2]
          have : Int.ofNat (48 + n) - 48 = (n : Int) := by show ((48 + n : Nat) : Int) - 48 = n; omega
          rw [this]
        · rw [e2] at e1
          exact Bool.noConfusion e1
      exact ⟨_, Runs.one (wf_no h l) e⟩
    · obtain ⟨pl, r⟩ := ih (n / 10) (by omega)
      rw [dg_step (by omega)]
      have ea : asc (dg (n / 10) ++ [48 + n % 10]) = asc (dg (n / 10)) ++ [Int.ofNat (48 + n % 10)] := by
        unfold asc
        rw [List.map_append]
        rfl
      rw [ea, nils_app]
      refine ⟨pl + 1, r.app (Runs.one (t := { s with tk := Wr key ⟨false, false, [], some (n : Int)⟩, pl := pl }) (wf_tok (c := ⟨false, false, [], some ((n / 10 : Nat) : Int)⟩) a l (fun z => Bool.noConfusion z) (by show 0 < sizeLine; decide)) ?_)⟩
      have h1 : (48 : Int) ≤ Int.ofNat (48 + n % 10) := by show (48 : Int) ≤ ((48 + n % 10 : Nat) : Int); omega
      have h2 : Int.ofNat (48 + n % 10) ≤ 57 := by show ((48 + n % 10 : Nat) : Int) ≤ 57; omega
      have e2 := ct_dig (k := ((n / 10 : Nat) : Int)) h1 h2 (by omega)
      refine (go_step (t := Wr key ⟨false, false, [], some (n : Int)⟩) (wr_no key _) ?_ (wr_done key _)).trans rfl
      rcases wr_take (key := key) (c := ⟨false, false, [], some ((n / 10 : Nat) : Int)⟩) (o := Int.ofNat (48 + n % 10)) rfl with e1 | e1
      · refine e1.trans ?_
        rw [e2]
        have : ((n / 10 : Nat) : Int) * 10 + Int.ofNat (48 + n % 10) - 48 = (n : Int) := by show ((n / 10 : Nat) : Int) * 10 + ((48 + n % 10 : Nat) : Int) - 48 = n; omega
        rw [this]
      · rw [e2] at e1
        exact Bool.noConfusion e1

/-! .. the rest of a token -/
theorem asc_dg (n : Nat) : asc (dg n) ≠ [] := fun e => by
  have := dg_pos n
  have e2 := congrArg List.length e
  unfold asc at e2
  rw [List.length_map] at e2
  have e2 : (dg n).length = 0 := e2
  omega
def strO (os : List Int) : List Int := asc (dg os.length) ++ [58] ++ os
theorem run_colon {key : Bool} {s : Sc} (a : At key s) (l : Lok s) (n : Nat) (pl : Nat) (hn : n ≠ 0) : Runs { s with tk := Wr key ⟨false, false, [], some (n : Int)⟩, pl := pl } [58] [[]] { s with tk := Wr key ⟨false, true, [], some (n : Int)⟩, pl := pl + 1 } := by
  refine Runs.one (t := { s with tk := Wr key ⟨false, true, [], some (n : Int)⟩, pl := pl }) (wf_tok (c := ⟨false, false, [], some (n : Int)⟩) a l (fun z => Bool.noConfusion z) (by show 0 < sizeLine; decide)) ?_
  refine go_step (t := Wr key ⟨false, true, [], some (n : Int)⟩) (wr_no key _) ?_ (wr_done key _)
  have e2 := ct_colon (n : Int)
  rw [decide_eq_false (show ¬ (n : Int) = 0 by omega)] at e2
  rcases wr_take (key := key) (c := ⟨false, false, [], some (n : Int)⟩) (o := 58) rfl with e1 | e1
  · exact e1.trans (by rw [e2])
  · rw [e2] at e1
    exact Bool.noConfusion e1
theorem run_colon0 {key : Bool} {s : Sc} (a : At key s) (l : Lok s) (pl : Nat) {r : List Ev} {t : Sc} (e : scEndToken { s with tk := Wr key ⟨true, true, [], some 0⟩, pl := pl } = (true, r, t)) : Runs { s with tk := Wr key ⟨false, false, [], some ((0 : Nat) : Int)⟩, pl := pl } [58] [r] { t with pl := t.pl + 1 } := by
  refine Runs.one (wf_tok (c := ⟨false, false, [], some ((0 : Nat) : Int)⟩) a l (fun z => Bool.noConfusion z) (by show 0 < sizeLine; decide)) ?_
  have e2 := ct_colon ((0 : Nat) : Int)
  rw [decide_eq_true (show ((0 : Nat) : Int) = 0 from rfl)] at e2
  refine (go_end (t := Wr key ⟨true, true, [], some ((0 : Nat) : Int)⟩) (wr_no key _) ?_ (wr_done key _)).trans e
  rcases wr_take (key := key) (c := ⟨false, false, [], some ((0 : Nat) : Int)⟩) (o := 58) rfl with e1 | e1
  · exact e1.trans (by rw [e2])
  · rw [e2] at e1
    exact Bool.noConfusion e1
/-- the octets behind a count: bytes -/
theorem run_octets {s : Sc} (a : At false s) (l : Lok s) : ∀ (os done : List Int) (pl : Nat), os ≠ [] → done.length + os.length < sizeLine →
    ∃ pl', Runs { s with tk := .cnt ⟨false, true, done, some (os.length : Int)⟩, pl := pl } os (Nils os.tail ++ [[.lf "bytes" [kd (done ++ os)]]]) { (scEndValue { s with tk := .no }) with pl := pl' }
  | [], _, _, h, _ => absurd rfl h
  | [o], done, pl, _, hl => by
    refine ⟨pl + 1, Runs.one (t := { (scEndValue { s with tk := .no }) with pl := pl }) (wf_tok (key := false) (c := ⟨false, true, done, some (([o] : List Int).length : Int)⟩) a l (fun _ => ⟨_, rfl⟩) (by show done.length < sizeLine; omega)) (?_ : scTake _ o = (true, [Ev.lf "bytes" [kd (done ++ [o])]], { (scEndValue { s with tk := .no }) with pl := pl }))⟩
    refine (go_end (t := .cnt ⟨true, true, done ++ [o], some 0⟩) (fun h => by cases h) rfl rfl).trans rfl
  | o :: o2 :: os, done, pl, _, hl => by
    have hl : done.length + (os.length + 2) < sizeLine := hl
    obtain ⟨pl', r⟩ := run_octets a l (o2 :: os) (done ++ [o]) (pl + 1) (by simp) (by simp; omega)
    rw [List.append_assoc] at r
    refine ⟨pl', ?_⟩
    have e : Nils (o :: o2 :: os).tail ++ [[Ev.lf "bytes" [kd (done ++ (o :: o2 :: os))]]] = [[]] ++ (Nils (o2 :: os).tail ++ [[.lf "bytes" [kd (done ++ ([o] ++ o2 :: os))]]]) := by
      show Nils ([o2] ++ os) ++ _ = _
      rw [nils_app]
      rfl
    rw [e]
    refine Runs.app (a := [o]) (m := { s with tk := .cnt ⟨false, true, done ++ [o], some ((o2 :: os).length : Int)⟩, pl := pl + 1 }) (Runs.one (t := { s with tk := .cnt ⟨false, true, done ++ [o], some ((o2 :: os).length : Int)⟩, pl := pl }) (wf_tok (key := false) (c := ⟨false, true, done, some ((o :: o2 :: os).length : Int)⟩) a l (fun _ => ⟨_, rfl⟩) (by show done.length < sizeLine; omega)) ?_) r
    refine go_step (t := .cnt ⟨false, true, done ++ [o], some ((o2 :: os).length : Int)⟩) (fun h => by cases h) ?_ rfl
    have e1 : ((o :: o2 :: os).length : Int) - 1 = ((o2 :: os).length : Int) := by simp
    show (true, Tok.cnt ⟨decide (((o :: o2 :: os).length : Int) - 1 = 0), true, done ++ [o], some (((o :: o2 :: os).length : Int) - 1)⟩) = _
    rw [e1, decide_eq_false (by simp; omega)]
theorem nils_ne {os : List Int} {r : List Ev} (x : List (List Ev)) : Nils os ++ (x ++ [r]) = (Nils os ++ x) ++ [r] := (List.append_assoc _ _ _).symm
/-- what a token of so many octets tells: nothing, and with the last one its event -/
def Told (os : List Int) (e : Ev) : List (List Ev) := Nils os.tail ++ [[e]]
theorem told_app {a b : List Int} {e : Ev} (ha : a ≠ []) (hb : b ≠ []) : Nils a ++ Told b e = Told (a ++ b) e := by
  unfold Told
  rw [← List.append_assoc, ← nils_app]
  congr 1
  unfold Nils
  congr 1
  cases a with
  | nil => exact absurd rfl ha
  | cons x a =>
    cases b with
    | nil => exact absurd rfl hb
    | cons y b =>
      simp
      omega
theorem run_bytes {s : Sc} (h : s.tk = .no) (a : At false s) (l : Lok s) (os : List Int) (hl : os.length < sizeLine) : ∃ pl, Runs s (strO os) (Told (strO os) (.lf "bytes" [kd os])) { (scEndValue { s with tk := .no }) with pl := pl } := by
  obtain ⟨pl, r⟩ := run_count h a l os.length
  unfold strO
  cases os with
  | nil =>
    rw [List.append_nil, ← told_app (asc_dg _) (by simp)]
    have e : scEndToken { s with tk := Wr false ⟨true, true, [], some 0⟩, pl := pl } = (true, [.lf "bytes" [kd []]], { (scEndValue { s with tk := .no }) with pl := pl }) := rfl
    exact ⟨pl + 1, r.app (run_colon0 (t := { (scEndValue { s with tk := .no }) with pl := pl }) a l pl e)⟩
  | cons o os =>
    have r2 := run_colon (key := false) a l (o :: os).length pl (by simp)
    obtain ⟨pl', r3⟩ := run_octets a l (o :: os) [] (pl + 1) (by simp) (by simpa using hl)
    rw [List.append_assoc, ← told_app (asc_dg _) (by simp), ← told_app (a := [58]) (by simp) (by simp)]
    exact ⟨pl', r.app (r2.app r3)⟩
/-- .. a key -/
theorem bk_in {done : List Int} {n o : Int} {u : U8} (h : (u8take u o).1 = true) : bkTake ⟨false, ⟨false, true, done, some n⟩, u⟩ o = bkFin false ⟨decide (n - 1 = 0), true, done ++ [o], some (n - 1)⟩ (u8take u o).2 := by
  have e : ctTake ⟨false, true, done, some n⟩ o = (true, ⟨decide (n - 1 = 0), true, done ++ [o], some (n - 1)⟩) := rfl
  unfold bkTake
  rw [e, if_neg (fun z => Bool.noConfusion z), if_pos rfl, if_neg (by rw [h]; decide)]
theorem wf_key {s : Sc} {c : Ct} {u : U8} {n : Nat} (a : At true s) (l : Lok s) (hb : c.b = true → ∃ k, c.m = some k) (hl : c.os.length < sizeLine) (hu : u.ps.length < sizeLine) : Wf { s with tk := .key ⟨false, c, u⟩, pl := n } := ⟨⟨hb, hl, hu⟩, a.2.mp rfl, l⟩
theorem run_kocts {s : Sc} (a : At true s) (l : Lok s) : ∀ (os done : List Int) (u v : U8) (pl : Nat), os ≠ [] → u8run u os = some v → v.ms = 0 → done.length + os.length < sizeLine → u.ps.length + os.length < sizeLine →
    scFresh s.lv v.ps = true →
    ∃ pl', Runs { s with tk := .key ⟨false, ⟨false, true, done, some (os.length : Int)⟩, u⟩, pl := pl } os (Told os (.ky v.ps)) { s with tk := .no, wt := "entry", lv := scNote s.lv v.ps, pl := pl' }
  | [], _, _, _, _, h, _, _, _, _, _ => absurd rfl h
  | [o], done, u, v, pl, _, hu, hv, hl, hp, hf => by
    unfold u8run at hu
    by_cases c : (u8take u o).1 = true
    rotate_left
    · rw [if_neg c] at hu
      cases hu
    rw [if_pos c] at hu
    have hu : v = (u8take u o).2 := (Option.some.inj hu).symm
    refine ⟨pl + 1, Runs.one (t := { s with tk := .no, wt := "entry", lv := scNote s.lv v.ps, pl := pl }) (wf_key (c := ⟨false, true, done, some (([o] : List Int).length : Int)⟩) a l (fun _ => ⟨_, rfl⟩) (by show done.length < sizeLine; omega) (by omega)) ?_⟩
    refine (go_end (t := .key ⟨true, ⟨true, true, done ++ [o], some 0⟩, v⟩) (fun h => by cases h) ?_ rfl).trans ?_
    · show ((bkTake _ o).1, Tok.key (bkTake _ o).2) = _
      rw [bk_in c, ← hu]
      show ((!true || !decide (v.ms > 0)), Tok.key ⟨true, ⟨true, true, done ++ [o], some 0⟩, v⟩) = _
      rw [hv]
      rfl
    · show (scFresh s.lv v.ps, _, _) = _
      rw [hf]
  | o :: o2 :: os, done, u, v, pl, _, hu, hv, hl, hp, hf => by
    have hl : done.length + (os.length + 2) < sizeLine := hl
    have hp : u.ps.length + (os.length + 2) < sizeLine := hp
    unfold u8run at hu
    by_cases c : (u8take u o).1 = true
    rotate_left
    · rw [if_neg c] at hu
      cases hu
    rw [if_pos c] at hu
    have hlen := u8take_len u o
    obtain ⟨pl', r⟩ := run_kocts a l (o2 :: os) (done ++ [o]) (u8take u o).2 v (pl + 1) (by simp) hu hv (by simp; omega) (by show _ + (os.length + 1) < _; omega) hf
    refine ⟨pl', ?_⟩
    have e : Told (o :: o2 :: os) (.ky v.ps) = [([] : List Ev)] ++ Told (o2 :: os) (.ky v.ps) := by
      unfold Told
      show Nils ([o2] ++ os) ++ _ = _
      rw [nils_app]
      rfl
    rw [e]
    refine Runs.app (a := [o]) (m := { s with tk := .key ⟨false, ⟨false, true, done ++ [o], some ((o2 :: os).length : Int)⟩, (u8take u o).2⟩, pl := pl + 1 }) (Runs.one (t := { s with tk := .key ⟨false, ⟨false, true, done ++ [o], some ((o2 :: os).length : Int)⟩, (u8take u o).2⟩, pl := pl }) (wf_key (c := ⟨false, true, done, some ((o :: o2 :: os).length : Int)⟩) a l (fun _ => ⟨_, rfl⟩) (by show done.length < sizeLine; omega) (by omega)) ?_) r
    refine go_step (t := .key ⟨false, ⟨false, true, done ++ [o], some ((o2 :: os).length : Int)⟩, (u8take u o).2⟩) (fun h => by cases h) ?_ rfl
    have e1 : ((o :: o2 :: os).length : Int) - 1 = ((o2 :: os).length : Int) := by simp
    show ((bkTake _ o).1, Tok.key (bkTake _ o).2) = _
    rw [bk_in c, e1, decide_eq_false (by simp; omega)]
    rfl
theorem run_key {s : Sc} (h : s.tk = .no) (a : At true s) (l : Lok s) (k : List Int) (hk : ∀ c ∈ k, Point c) (hl : (encs k).length < sizeLine) (hf : scFresh s.lv k = true) :
    ∃ pl, Runs s (strO (encs k)) (Told (strO (encs k)) (.ky k)) { s with tk := .no, wt := "entry", lv := scNote s.lv k, pl := pl } := by
  obtain ⟨pl, r⟩ := run_count h a l (encs k).length
  obtain ⟨v, e1, e2, e3⟩ := u8run_encs k u80 hk rfl
  have e3 : v.ps = k := e3
  unfold strO
  cases ek : encs k with
  | nil =>
    rw [ek] at e1 r
    have ev : v = u80 := (Option.some.inj e1).symm
    have k0 : k = [] := by rw [← e3, ev]; rfl
    rw [List.append_nil, ← told_app (asc_dg _) (by simp)]
    have e : scEndToken { s with tk := Wr true ⟨true, true, [], some 0⟩, pl := pl } = (true, [.ky k], { s with tk := .no, wt := "entry", lv := scNote s.lv k, pl := pl }) := by
      show (scFresh s.lv [], [Ev.ky []], _) = _
      rw [k0] at hf ⊢
      rw [hf]
      rfl
    exact ⟨pl + 1, r.app (run_colon0 (t := { s with tk := .no, wt := "entry", lv := scNote s.lv k, pl := pl }) a l pl e)⟩
  | cons o os =>
    rw [ek] at e1 r hl
    have r2 := run_colon (key := true) a l (o :: os).length pl (by simp)
    obtain ⟨pl', r3⟩ := run_kocts a l (o :: os) [] u80 v (pl + 1) (by simp) e1 e2 (by simpa using hl) (by simpa [u80] using hl) (by rw [e3]; exact hf)
    rw [e3] at r3
    rw [List.append_assoc, ← told_app (asc_dg _) (by simp), ← told_app (a := [58]) (by simp) (by simp)]
    exact ⟨pl', r.app (r2.app r3)⟩

/-! .. numbers, lists, maps -/
def numO (m e : Int) : List Int := [105] ++ asc ((if m < 0 then [45] else []) ++ dg m.natAbs ++ List.replicate e.toNat 48) ++ [101]
def Nf (m e : Int) : Prop := (m = 0 ∧ e = 0) ∨ (m % 10 ≠ 0 ∧ 0 ≤ e ∧ e ≤ 800)
theorem wf_num {s : Sc} {b : Bn} {n : Nat} (a : At false s) (l : Lok s) : Wf { s with tk := .num b, pl := n } := ⟨trivial, fun z => (by cases a.2.mpr z), l⟩
theorem bn_dig {b : Bn} {d : Nat} (hd : d < 10) (h1 : b.st ≠ "zero") (h2 : b.st = "minus" → d ≠ 0) : bnTake b (Int.ofNat (48 + d)) = (true, { b with st := if b.st = "" ∧ d = 0 then "zero" else "digits", w := b.w * 10 + (d : Int) }) := by
  have e48 : Int.ofNat (48 + d) = 48 + (d : Int) := by show ((48 + d : Nat) : Int) = _; omega
  unfold bnTake
  rw [e48, if_neg (by omega), if_neg (by omega), if_pos (isDg_of (by omega) (by omega))]
  unfold bnDigit
  have e : 48 + (d : Int) - 48 = (d : Int) := by omega
  rw [e, if_neg (fun z => z.elim h1 fun z => h2 z.1 (by omega))]
  congr 2
  by_cases c : b.st = "" ∧ d = 0
  · rw [if_pos c, if_pos ⟨c.1, by omega⟩]
  · rw [if_neg c, if_neg (fun z => c ⟨z.1, by omega⟩)]
theorem num_step {s : Sc} {b b2 : Bn} {o : Int} {pl : Nat} (a : At false s) (l : Lok s) (e : bnTake b o = (true, b2)) (d : b2.d = false) : Runs { s with tk := .num b, pl := pl } [o] [[]] { s with tk := .num b2, pl := pl + 1 } := by
  refine Runs.one (t := { s with tk := .num b2, pl := pl }) (wf_num a l) (go_step (t := .num b2) (fun h => by cases h) ?_ d)
  show ((bnTake b o).1, Tok.num (bnTake b o).2) = _
  rw [e]
/-- the digits of a number that is not 0 -/
theorem run_digs {s : Sc} (a : At false s) (l : Lok s) (sg : Int) (st : Str) (h0 : st ≠ "zero") (hs : st ≠ "digits") : ∀ (n : Nat), n ≠ 0 → ∀ pl : Nat, ∃ pl', Runs { s with tk := .num ⟨false, sg, 0, st⟩, pl := pl } (asc (dg n)) (Nils (asc (dg n))) { s with tk := .num ⟨false, sg, (n : Int), "digits"⟩, pl := pl' } := by
  intro n
  induction n using Nat.strongRecOn with
  | _ n ih =>
    intro hn pl
    by_cases c : n < 10
    · rw [dg_lt c]
      have e := bn_dig (b := ⟨false, sg, 0, st⟩) c h0 fun _ => hn
      have e2 : (if st = "" ∧ n = 0 then ("zero" : Str) else "digits") = "digits" := if_neg fun z => hn z.2
      have e3 : (0 : Int) * 10 + (n : Int) = (n : Int) := by omega
      refine ⟨pl + 1, num_step a l (b2 := ⟨false, sg, (n : Int), "digits"⟩) (e.trans ?_) rfl⟩
      show (true, Bn.mk false sg ((0 : Int) * 10 + (n : Int)) (if st = "" ∧ n = 0 then ("zero" : Str) else "digits")) = _
      rw [e2, e3]
    · obtain ⟨pl1, r⟩ := ih (n / 10) (by omega) (by omega) pl
      rw [dg_step (by omega)]
      have ea : asc (dg (n / 10) ++ [48 + n % 10]) = asc (dg (n / 10)) ++ [Int.ofNat (48 + n % 10)] := by
        unfold asc
        rw [List.map_append]
        rfl
      rw [ea, nils_app]
      have e := bn_dig (b := ⟨false, sg, ((n / 10 : Nat) : Int), "digits"⟩) (Nat.mod_lt n (by decide : 10 > 0)) (by show ("digits" : Str) ≠ "zero"; decide +kernel) fun z => absurd z (by show ¬ ("digits" : Str) = "minus"; decide +kernel)
      have e2 : (if ("digits" : Str) = "" ∧ n % 10 = 0 then ("zero" : Str) else "digits") = "digits" := if_neg fun z => absurd z.1 (by decide +kernel)
      have e3 : ((n / 10 : Nat) : Int) * 10 + ((n % 10 : Nat) : Int) = (n : Int) := by omega
      refine ⟨pl1 + 1, r.app (num_step a l (b2 := ⟨false, sg, (n : Int), "digits"⟩) (e.trans ?_) rfl)⟩
      show (true, Bn.mk false sg (((n / 10 : Nat) : Int) * 10 + ((n % 10 : Nat) : Int)) (if ("digits" : Str) = "" ∧ n % 10 = 0 then ("zero" : Str) else "digits")) = _
      rw [e2, e3]
theorem run_zeros {s : Sc} (a : At false s) (l : Lok s) (sg : Int) : ∀ (k : Nat) (w : Int) (pl : Nat), ∃ pl', Runs { s with tk := .num ⟨false, sg, w, "digits"⟩, pl := pl } (asc (List.replicate k 48)) (Nils (asc (List.replicate k 48))) { s with tk := .num ⟨false, sg, w * 10 ^ k, "digits"⟩, pl := pl' }
  | 0, w, pl => ⟨pl, by show _ = _; simp⟩
  | k + 1, w, pl => by
    have e := bn_dig (b := ⟨false, sg, w, "digits"⟩) (d := 0) (by decide) (by show ("digits" : Str) ≠ "zero"; decide +kernel) fun z => absurd z (by show ¬ ("digits" : Str) = "minus"; decide +kernel)
    have e2 : (if ("digits" : Str) = "" ∧ (0 : Nat) = 0 then ("zero" : Str) else "digits") = "digits" := if_neg fun z => absurd z.1 (by decide +kernel)
    obtain ⟨pl', r⟩ := run_zeros a l sg k (w * 10) (pl + 1)
    have ew : w * 10 * 10 ^ k = w * 10 ^ (k + 1) := by rw [Int.pow_succ, Int.mul_assoc, Int.mul_comm 10]
    rw [ew] at r
    have s1 : Runs { s with tk := .num ⟨false, sg, w, "digits"⟩, pl := pl } [48] [[]] { s with tk := .num ⟨false, sg, w * 10, "digits"⟩, pl := pl + 1 } := by
      refine num_step a l (b2 := ⟨false, sg, w * 10, "digits"⟩) (e.trans ?_) rfl
      show (true, Bn.mk false sg (w * 10 + ((0 : Nat) : Int)) (if ("digits" : Str) = "" ∧ (0 : Nat) = 0 then ("zero" : Str) else "digits")) = _
      rw [e2]
      simp
    exact ⟨pl', s1.app r⟩
theorem bnEnds_digits (d : Bool) (sg w : Int) : bnEnds ⟨d, sg, w, "digits"⟩ = true := by
  unfold bnEnds
  exact decide_eq_true (.inr rfl)
theorem run_num {s : Sc} (h : s.tk = .no) (a : At false s) (l : Lok s) (m e : Int) (nf : Nf m e) : ∃ pl, Runs s (numO m e) (Told (numO m e) (.lf "number" [.int m, .int e])) { (scEndValue { s with tk := .no }) with pl := pl } := by
  have open_ : Runs s [105] [[]] { s with tk := .num bn0, pl := s.pl + 1 } := by
    refine Runs.one (t := { s with tk := .num bn0 }) (wf_no h l) ?_
    unfold scTake
    rw [h]
    show scMark s 105 = _
    unfold scMark
    rw [if_neg (by decide), if_neg a.1, if_neg (fun z => by cases a.2.mpr z), if_neg (by decide), if_neg (by decide), if_pos rfl]
  have close : ∀ (b : Bn) (pl : Nat), b.d = false → bnEnds b = true → bnPair b = (m, e) → e ≤ 800 → Runs { s with tk := .num b, pl := pl } [101] [[.lf "number" [.int m, .int e]]] { (scEndValue { s with tk := .no }) with pl := pl + 1 } := fun b pl hd he hp h8 => by
    refine Runs.one (t := { (scEndValue { s with tk := .no }) with pl := pl }) (wf_num a l) ?_
    refine (go_end (t := .num { b with d := true }) (fun h => by cases h) ?_ rfl).trans ?_
    · show ((bnTake b 101).1, Tok.num (bnTake b 101).2) = _
      unfold bnTake
      rw [if_pos rfl, he, hp, decide_eq_true h8]
      rfl
    · have hp2 : bnPair { b with d := true } = (m, e) := hp
      show (true, [Ev.lf "number" [.int (bnPair { b with d := true }).1, .int (bnPair { b with d := true }).2]], _) = _
      rw [hp2]
      rfl
  have told : numO m e = [105] ++ (asc ((if m < 0 then [45] else []) ++ dg m.natAbs ++ List.replicate e.toNat 48) ++ [101]) := by
    unfold numO
    rw [List.append_assoc]
  have nz : asc ((if m < 0 then [45] else []) ++ dg m.natAbs ++ List.replicate e.toNat 48) ≠ [] := fun z => by
    have z := congrArg List.length z
    unfold asc at z
    rw [List.length_map, List.length_append, List.length_append] at z
    have := dg_pos m.natAbs
    have z : _ + _ + _ = 0 := z
    omega
  rw [told, ← told_app (by simp) (by simp), ← told_app nz (by simp)]
  rcases nf with ⟨rfl, rfl⟩ | ⟨hm, he0, he8⟩
  · have e1 : asc ((if (0 : Int) < 0 then [45] else []) ++ dg (0 : Int).natAbs ++ List.replicate (0 : Int).toNat 48) = [48] := by
      rw [if_neg (by decide)]
      show asc (([] ++ dg 0) ++ []) = _
      rw [List.append_nil, List.nil_append, dg_lt (by decide)]
      rfl
    rw [e1]
    have s1 : Runs { s with tk := .num bn0, pl := s.pl + 1 } [48] [[]] { s with tk := .num ⟨false, 1, 0, "zero"⟩, pl := s.pl + 1 + 1 } := by
      refine num_step a l ((bn_dig (b := bn0) (d := 0) (by decide) (by decide +kernel) fun z => absurd z (by decide +kernel)).trans ?_) rfl
      rfl
    exact ⟨_, open_.app (s1.app (close ⟨false, 1, 0, "zero"⟩ _ rfl (by decide +kernel) (by show nrm (1 * 0) 0 = _; rw [show (1 : Int) * 0 = 0 from rfl, nrm_zero]) (by decide)))⟩
  · have hn : m.natAbs ≠ 0 := fun z => hm (by have : m = 0 := Int.natAbs_eq_zero.mp z; rw [this]; rfl)
    have pairE : ∀ sg : Int, sg * (m.natAbs : Int) = m → bnPair ⟨false, sg, (m.natAbs : Int) * 10 ^ e.toNat, "digits"⟩ = (m, e) := fun sg hsg => by
      show nrm (sg * ((m.natAbs : Int) * 10 ^ e.toNat)) 0 = _
      rw [← Int.mul_assoc, hsg, nrm_is hm e.toNat rfl 0]
      congr 1
      omega
    by_cases hneg : m < 0
    · rw [if_pos hneg]
      have e1 : asc ([45] ++ dg m.natAbs ++ List.replicate e.toNat 48) = [45] ++ (asc (dg m.natAbs) ++ asc (List.replicate e.toNat 48)) := by
        unfold asc
        rw [List.append_assoc, List.map_append, List.map_append]
        rfl
      rw [e1, nils_app, nils_app]
      have s1 : Runs { s with tk := .num bn0, pl := s.pl + 1 } [45] [[]] { s with tk := .num ⟨false, -1, 0, "minus"⟩, pl := s.pl + 1 + 1 } := by
        refine num_step a l (b2 := ⟨false, -1, 0, "minus"⟩) ?_ rfl
        unfold bnTake
        rw [if_neg (by decide), if_pos rfl]
        unfold bnMinus
        rw [if_pos (by rfl)]
        rfl
      obtain ⟨p1, r1⟩ := run_digs a l (-1) "minus" (by decide +kernel) (by decide +kernel) m.natAbs hn (s.pl + 1 + 1)
      obtain ⟨p2, r2⟩ := run_zeros a l (-1) e.toNat (m.natAbs : Int) p1
      exact ⟨_, open_.app (Runs.app (Runs.app s1 (r1.app r2)) (close _ _ rfl (bnEnds_digits _ _ _) (pairE (-1) (by omega)) he8))⟩
    · rw [if_neg hneg]
      have e1 : asc ([] ++ dg m.natAbs ++ List.replicate e.toNat 48) = asc (dg m.natAbs) ++ asc (List.replicate e.toNat 48) := by
        unfold asc
        rw [List.nil_append, List.map_append]
      rw [e1, nils_app]
      obtain ⟨p1, r1⟩ := run_digs a l 1 "" (by decide +kernel) (by decide +kernel) m.natAbs hn (s.pl + 1)
      obtain ⟨p2, r2⟩ := run_zeros a l 1 e.toNat (m.natAbs : Int) p1
      exact ⟨_, open_.app (Runs.app (r1.app r2) (close _ _ rfl (bnEnds_digits _ _ _) (pairE 1 (by omega)) he8))⟩
/-- values that bencode has -/
def Kp (k : List Int) : Prop := k.length ≤ 200 ∧ ∀ c ∈ k, Point c
inductive Lb : Str → List PyData → Prop
  | number (m e : Int) (h : Nf m e) (hm : m.natAbs < 10 ^ 60) : Lb "number" [.int m, .int e]
  | bytes (os : List Int) (h : os.length ≤ 300 ∧ ∀ c ∈ os, 0 ≤ c ∧ c ≤ 255) : Lb "bytes" [kd os]
mutual
def Vl.bf : Nat → Vl → Prop
  | _, .lf k r => Lb k r
  | 0, .ls _ => False
  | 0, .mp _ => False
  | n + 1, .ls xs => xs.length ≤ 49 ∧ bfL n xs
  | n + 1, .mp es => es.length ≤ 49 ∧ (es.map (·.1)).Pairwise (fun x y => HT.lexLt x y = true) ∧ (∀ e ∈ es, Kp e.1) ∧ bfM n es
def bfL : Nat → List Vl → Prop
  | _, [] => True
  | n, x :: xs => x.bf n ∧ bfL n xs
def bfM : Nat → List (List Int × Vl) → Prop
  | _, [] => True
  | n, (_, v) :: es => v.bf n ∧ bfM n es
end
theorem bfL_mem : ∀ {n : Nat} {xs : List Vl}, bfL n xs → ∀ x ∈ xs, x.bf n
  | _, [], _, x, h => absurd h (by simp)
  | _, y :: ys, h, x, hx => by
    rcases List.mem_cons.mp hx with e | e
    · rw [e]
      exact h.1
    · exact bfL_mem h.2 x e
theorem bfM_mem : ∀ {n : Nat} {es : List (List Int × Vl)}, bfM n es → ∀ e ∈ es, e.2.bf n
  | _, [], _, x, h => absurd h (by simp)
  | _, (k, v) :: ys, h, x, hx => by
    rcases List.mem_cons.mp hx with e | e
    · rw [e]
      exact h.1
    · exact bfM_mem h.2 x e
theorem bfM_of : ∀ {n : Nat} {es : List (List Int × Vl)}, (∀ e ∈ es, e.2.bf n) → bfM n es
  | _, [], _ => trivial
  | _, (k, v) :: ys, h => ⟨h _ (List.mem_cons_self ..), bfM_of fun e he => h e (List.mem_cons_of_mem _ he)⟩
theorem bfL_of : ∀ {n : Nat} {xs : List Vl}, (∀ x ∈ xs, x.bf n) → bfL n xs
  | _, [], _ => trivial
  | _, y :: ys, h => ⟨h _ (List.mem_cons_self ..), bfL_of fun e he => h e (List.mem_cons_of_mem _ he)⟩
theorem kd_inj {a b : List Int} (h : kd a = kd b) : a = b := by
  unfold kd at h
  injection h with h
  have e := congrArg (List.map fun d : PyData => match d with | .int i => i | _ => 0) h
  rw [List.map_map, List.map_map] at e
  have f : ∀ l : List Int, List.map ((fun d : PyData => match d with | .int i => i | _ => 0) ∘ PyData.int) l = l := fun l => by
    rw [show ((fun d : PyData => match d with | .int i => i | _ => 0) ∘ PyData.int) = id from rfl, List.map_id]
  rw [f, f] at e
  exact e
theorem lb_bytes {os : List Int} (hb : Lb "bytes" [kd os]) : os.length ≤ 300 := by
  generalize hk : ([kd os] : List PyData) = kk at hb
  generalize hs : (("bytes" : Str)) = ss at hb
  cases hb with
  | number m e h hm => exact absurd hs (by decide +kernel)
  | bytes os2 h =>
    injection hk with hk
    rw [kd_inj hk]
    exact h.1
abbrev Tk2 : Type := List Int × Ev
mutual
inductive Tks : Vl → List Tk2 → Prop
  | num (m e : Int) : Tks (.lf "number" [.int m, .int e]) [(numO m e, .lf "number" [.int m, .int e])]
  | bytes (os : List Int) : Tks (.lf "bytes" [kd os]) [(strO os, .lf "bytes" [kd os])]
  | ls {xs : List Vl} {ts : List Tk2} (h : TksL xs ts) : Tks (.ls xs) (([108], .op false) :: (ts ++ [([101], .cl)]))
  | mp {es es' : List (List Int × Vl)} {ts : List Tk2} (p : es'.Perm es) (h : TksM es' ts) : Tks (.mp es) (([100], .op true) :: (ts ++ [([101], .cl)]))
inductive TksL : List Vl → List Tk2 → Prop
  | nil : TksL [] []
  | cons {x : Vl} {xs : List Vl} {t ts : List Tk2} (h : Tks x t) (r : TksL xs ts) : TksL (x :: xs) (t ++ ts)
inductive TksM : List (List Int × Vl) → List Tk2 → Prop
  | nil : TksM [] []
  | cons {k : List Int} {x : Vl} {es : List (List Int × Vl)} {t ts : List Tk2} (h : Tks x t) (r : TksM es ts) : TksM ((k, x) :: es) ((strO (encs k), .ky k) :: (t ++ ts))
end
def octT (ts : List Tk2) : List Int := ts.flatMap (·.1)
def rowT (ts : List Tk2) : List (List Ev) := ts.flatMap fun t => Told t.1 t.2
theorem octT_app (a b : List Tk2) : octT (a ++ b) = octT a ++ octT b := List.flatMap_append
theorem rowT_app (a b : List Tk2) : rowT (a ++ b) = rowT a ++ rowT b := List.flatMap_append
theorem octT_cons (t : Tk2) (b : List Tk2) : octT (t :: b) = t.1 ++ octT b := List.flatMap_cons
theorem rowT_cons (t : Tk2) (b : List Tk2) : rowT (t :: b) = Told t.1 t.2 ++ rowT b := List.flatMap_cons
/-- where a value may begin -/
def Ready (s : Sc) : Prop := s.tk = .no ∧ s.wt ≠ "nothing" ∧ s.wt ≠ "key" ∧ Lok s
theorem Ready.at {s : Sc} (h : Ready s) : At false s := ⟨h.2.1, ⟨fun z => (by cases z), fun z => absurd z h.2.2.1⟩⟩
theorem lok_lv {s t : Sc} (l : Lok s) (e : t.lv = s.lv) (w : t.wt = "key" → t.lv ≠ []) : Lok t := ⟨w, by rw [e]; exact l.2.1, by rw [e]; exact l.2.2⟩
theorem wtOf_key {lv : List Lv} (h : wtOf lv = "key") : lv ≠ [] := fun e => by
  rw [e] at h
  exact absurd h (by decide +kernel)
theorem run_open {s : Sc} (h : Ready s) (m : Bool) (hl : s.lv.length < 24) : Runs s [if m = true then 100 else 108] [[.op m]] { s with lv := ⟨m, []⟩ :: s.lv, wt := if m = true then "key" else "value", pl := s.pl + 1 } := by
  refine Runs.one (t := { s with lv := ⟨m, []⟩ :: s.lv, wt := if m = true then "key" else "value" }) (wf_no h.1 h.2.2.2) ?_
  unfold scTake
  rw [h.1]
  show scMark s _ = _
  unfold scMark scGrow
  have := Nat.ne_of_lt hl
  cases m <;> simp [h.2.1, h.2.2.1, this, h.1]
theorem run_close {s : Sc} {l : Lv} {r : List Lv} (h : s.tk = .no) (k : Lok s) (e : s.lv = l :: r) (hw : s.wt ≠ "entry") : Runs s [101] [[.cl]] { (scEndValue { s with lv := r }) with pl := s.pl + 1 } := by
  refine Runs.one (t := scEndValue { s with lv := r }) (wf_no h k) ?_
  unfold scTake
  rw [h]
  show scMark s 101 = _
  unfold scMark scClose
  rw [if_pos rfl, e]
  show (if s.wt = "entry" then _ else _) = _
  rw [if_neg hw, h]
def Val (n : Nat) : Prop := ∀ (v : Vl) (ts : List Tk2) (s : Sc), v.bf n → Tks v ts → Ready s → s.lv.length + n ≤ 24 → ∃ s', Runs s (octT ts) (rowT ts) s' ∧ s'.tk = .no ∧ s'.lv = s.lv ∧ s'.wt = wtOf s.lv
theorem run_ls {n : Nat} (H : Val n) : ∀ (xs : List Vl) (ts : List Tk2) (s : Sc) (r : List Lv), bfL n xs → TksL xs ts → Ready s → s.wt = "value" → s.lv = ⟨false, []⟩ :: r → r.length + 1 + n ≤ 24 → ∃ s', Runs s (octT ts) (rowT ts) s' ∧ s'.tk = .no ∧ s'.lv = s.lv ∧ s'.wt = "value"
  | [], _, s, r, _, .nil, hr, hw, hlv, hn => ⟨s, rfl, hr.1, rfl, hw⟩
  | x :: xs, _, s, r, hb, .cons (t := t) (ts := ts) h1 h2, hr, hw, hlv, hn => by
    obtain ⟨s1, r1, a1, a2, a3⟩ := H x t s hb.1 h1 hr (by rw [hlv]; exact hn)
    have a3 : s1.wt = "value" := by
      rw [a3, hlv]
      rfl
    have ready1 : Ready s1 := ⟨a1, by rw [a3]; decide +kernel, by rw [a3]; decide +kernel, lok_lv hr.2.2.2 a2 fun z => by rw [a3] at z; exact absurd z (by decide +kernel)⟩
    obtain ⟨s2, r2, b1, b2, b3⟩ := run_ls H xs ts s1 r hb.2 h2 ready1 a3 (by rw [a2, hlv]) hn
    rw [octT_app, rowT_app]
    exact ⟨s2, r1.app r2, b1, by rw [b2, a2], b3⟩
theorem encs_small {k : List Int} (h : Kp k) : (encs k).length < sizeLine := Nat.lt_of_le_of_lt (len_encs k) (Nat.lt_of_le_of_lt (Nat.mul_le_mul_left 4 h.1) (by decide))
theorem run_mp {n : Nat} (H : Val n) : ∀ (es : List (List Int × Vl)) (ts : List Tk2) (s : Sc) (ks : List (List Int)) (r : List Lv), bfM n es → (∀ e ∈ es, Kp e.1) → TksM es ts → s.tk = .no → s.wt = "key" → Lok s → s.lv = ⟨true, ks⟩ :: r → r.length + 1 + n ≤ 24 → (ks ++ es.map (·.1)).Nodup → ks.length + es.length ≤ 1000 →
    ∃ s', Runs s (octT ts) (rowT ts) s' ∧ s'.tk = .no ∧ s'.lv = ⟨true, ks ++ es.map (·.1)⟩ :: r ∧ s'.wt = "key" ∧ Lok s'
  | [], _, s, ks, r, _, _, .nil, h1, hw, hk, hlv, hn, _, _ => ⟨s, rfl, h1, by simpa using hlv, hw, hk⟩
  | (k, x) :: es, _, s, ks, r, hb, hp, .cons (t := t) (ts := ts) q1 q2, h1, hw, hk, hlv, hn, nd, hl => by
    have hl : ks.length + (es.length + 1) ≤ 1000 := hl
    have hkp := hp _ (List.mem_cons_self ..)
    have nk : k ∉ ks := fun z => by
      rw [List.nodup_append] at nd
      exact nd.2.2 k z k (by simp) rfl
    have hf : scFresh s.lv k = true := by
      rw [hlv]
      simp [scFresh, nk]
    have e2 : scNote s.lv k = ⟨true, ks ++ [k]⟩ :: r := by
      rw [hlv]
      simp [scNote, nk]
    obtain ⟨pl, r0⟩ := run_key h1 ⟨by rw [hw]; decide +kernel, fun _ => hw, fun _ => rfl⟩ hk k hkp.2 (encs_small hkp) hf
    rw [e2] at r0
    have lok0 : Lok { s with tk := .no, wt := "entry", lv := ⟨true, ks ++ [k]⟩ :: r, pl := pl } := by
      refine ⟨fun z => absurd z (by show ¬ ("entry" : Str) = "key"; decide +kernel), by show r.length + 1 ≤ 24; omega, fun l hl2 => ?_⟩
      rcases List.mem_cons.mp hl2 with e | e
      · rw [e]
        exact small1000 (by show (ks ++ [k]).length ≤ 1000; rw [List.length_append]; show ks.length + 1 ≤ 1000; omega)
      · exact hk.2.2 l (by rw [hlv]; exact List.mem_cons_of_mem _ e)
    obtain ⟨s1, r1, a1, a2, a3⟩ := H x t _ hb.1 q1 ⟨rfl, by show ("entry" : Str) ≠ "nothing"; decide +kernel, by show ("entry" : Str) ≠ "key"; decide +kernel, lok0⟩ hn
    have a2 : s1.lv = ⟨true, ks ++ [k]⟩ :: r := a2
    have a3 : s1.wt = "key" := a3
    obtain ⟨s2, r2, b1, b2, b3, b4⟩ := run_mp H es ts s1 (ks ++ [k]) r hb.2 (fun e he => hp e (List.mem_cons_of_mem _ he)) q2 a1 a3 (lok_lv lok0 a2 fun _ => by rw [a2]; simp) a2 hn (by rw [List.append_assoc]; exact nd) (by rw [List.length_append]; show ks.length + 1 + es.length ≤ 1000; omega)
    rw [octT_cons, rowT_cons, octT_app, rowT_app]
    refine ⟨s2, r0.app (r1.app r2), b1, ?_, b3, b4⟩
    rw [b2, List.append_assoc]
    rfl
theorem run_val : ∀ n, Val n := by
    intro n
    induction n with
    | zero =>
      intro v ts s hb ht hr hn
      cases ht with
      | num m e =>
        have hb : Lb "number" [.int m, .int e] := hb
        have nf : Nf m e := by cases hb; assumption
        obtain ⟨pl, r⟩ := run_num hr.1 hr.at hr.2.2.2 m e nf
        refine ⟨{ (scEndValue { s with tk := .no }) with pl := pl }, ?_, rfl, rfl, rfl⟩
        rw [octT_cons, rowT_cons]
        exact r.app rfl
      | bytes os =>
        have hl := lb_bytes hb
        obtain ⟨pl, r⟩ := run_bytes hr.1 hr.at hr.2.2.2 os (small1000 (by omega))
        refine ⟨{ (scEndValue { s with tk := .no }) with pl := pl }, ?_, rfl, rfl, rfl⟩
        rw [octT_cons, rowT_cons]
        exact r.app rfl
      | ls h => exact (show False from hb).elim
      | mp p h => exact (show False from hb).elim
    | succ n ih =>
      intro v ts s hb ht hr hn
      cases ht with
      | num m e =>
        have hb : Lb "number" [.int m, .int e] := hb
        have nf : Nf m e := by cases hb; assumption
        obtain ⟨pl, r⟩ := run_num hr.1 hr.at hr.2.2.2 m e nf
        refine ⟨{ (scEndValue { s with tk := .no }) with pl := pl }, ?_, rfl, rfl, rfl⟩
        rw [octT_cons, rowT_cons]
        exact r.app rfl
      | bytes os =>
        have hl := lb_bytes hb
        obtain ⟨pl, r⟩ := run_bytes hr.1 hr.at hr.2.2.2 os (small1000 (by omega))
        refine ⟨{ (scEndValue { s with tk := .no }) with pl := pl }, ?_, rfl, rfl, rfl⟩
        rw [octT_cons, rowT_cons]
        exact r.app rfl
      | ls h =>
        have hb : _ ∧ _ := hb
        have r0 := run_open hr false (by omega)
        have lok0 : Lok { s with lv := ⟨false, []⟩ :: s.lv, wt := "value", pl := s.pl + 1 } := by
          refine ⟨fun z => absurd z (by show ¬ ("value" : Str) = "key"; decide +kernel), by show s.lv.length + 1 ≤ 24; omega, fun l hl2 => ?_⟩
          rcases List.mem_cons.mp hl2 with e | e
          · rw [e]
            exact small1000 (Nat.zero_le _)
          · exact hr.2.2.2.2.2 l e
        obtain ⟨s1, r1, a1, a2, a3⟩ := run_ls ih _ _ { s with lv := ⟨false, []⟩ :: s.lv, wt := "value", pl := s.pl + 1 } s.lv hb.2 h ⟨hr.1, by show ("value" : Str) ≠ "nothing"; decide +kernel, by show ("value" : Str) ≠ "key"; decide +kernel, lok0⟩ rfl rfl (by omega)
        have a2 : s1.lv = ⟨false, []⟩ :: s.lv := a2
        have r2 := run_close a1 (lok_lv lok0 a2 fun _ => by rw [a2]; simp) a2 (by rw [a3]; decide +kernel)
        rw [octT_cons, rowT_cons, octT_app, rowT_app]
        exact ⟨{ (scEndValue { s1 with lv := s.lv }) with pl := s1.pl + 1 }, r0.app (r1.app r2), a1, rfl, rfl⟩
      | mp p h =>
        rename_i es es' ts'
        have hb : _ ∧ _ ∧ _ ∧ _ := hb
        have r0 := run_open hr true (by omega)
        have lok0 : Lok { s with lv := ⟨true, []⟩ :: s.lv, wt := "key", pl := s.pl + 1 } := by
          refine ⟨fun z => by simp, by show s.lv.length + 1 ≤ 24; omega, fun l hl2 => ?_⟩
          rcases List.mem_cons.mp hl2 with e | e
          · rw [e]
            exact small1000 (Nat.zero_le _)
          · exact hr.2.2.2.2.2 l e
        have nd : (([] : List (List Int)) ++ es'.map (·.1)).Nodup := by
          rw [List.nil_append, (p.map _).nodup_iff]
          exact hb.2.1.imp fun {a b} q e => by
            subst e
            rw [lexLt_irr] at q
            cases q
        obtain ⟨s1, r1, a1, a2, a3, a4⟩ := run_mp ih es' _ { s with lv := ⟨true, []⟩ :: s.lv, wt := "key", pl := s.pl + 1 } [] s.lv (bfM_of fun e he => bfM_mem hb.2.2.2 e (p.mem_iff.mp he)) (fun e he => hb.2.2.1 e (p.mem_iff.mp he)) h hr.1 rfl lok0 rfl (by omega) nd (by rw [p.length_eq]; have := hb.1; show 0 + _ ≤ 1000; omega)
        have r2 := run_close a1 a4 a2 (by rw [a3]; decide +kernel)
        rw [octT_cons, rowT_cons, octT_app, rowT_app]
        exact ⟨{ (scEndValue { s1 with lv := s.lv }) with pl := s1.pl + 1 }, r0.app (r1.app r2), a1, rfl, rfl⟩

/-! ### the law's draws -/





def sp__law_big (K : Frg) : Sp := sp__law_next K
/-- what 3001 steps bring: the normal form, or a power of ten that is too large anyway -/
def sp__law_normal : Sp := sp2 fun a b H Q _ => (∃ m e : Int, a = .int m ∧ b = .int e ∧ m.natAbs < 10 ^ 100 ∧ ∀ (p : Addr) (m' e' : Int) (H' : Hp), nrm m e = (m', e') → H p = none → H' p = some (.tup [.int m', .int e']) → Same H H' → Q (.ref p) H') ∨
  ∃ m e : Int, a = .int m ∧ b = .int e ∧ ∀ (p : Addr) (m' e' : Int) (H' : Hp), (nrm m e = (m', e') ∨ (e + 3001 ≤ e' ∧ e' ≤ (nrm m e).2)) → H p = none → H' p = some (.tup [.int m', .int e']) → Same H H' → Q (.ref p) H'
theorem nrm_ge {m : Int} (e : Int) (h : m ≠ 0) : e ≤ (nrm m e).2 := by
  obtain ⟨a, k, q, _⟩ := nrm_of e h
  rw [q]
  show e ≤ e + k
  omega
def sp__law_many (K : Frg) : Sp := sp2 fun a b H Q _ => ∃ S l mo, a = .ref S.a ∧ b = .int mo ∧ 21 ≤ mo ∧ LB K S l H ∧ ∀ (r : Int) (H' : Hp), 0 ≤ r → r < mo → LB K S l H' → Keep S H H' → Q (.int r) H'
def sp__law_points (K : Frg) : Sp := sp1 fun a H Q _ => ∃ S l, a = .ref S.a ∧ LB K S l H ∧ ∀ (p : Addr) (ps : List Int) (H' : Hp), H' p = some (.tup (ps.map V.int)) → Kp ps → LB K S l H' → Keep S H H' → Q (.ref p) H'
def sp__law_octets (K : Frg) : Sp := sp1 fun a H Q _ => ∃ S l, a = .ref S.a ∧ LB K S l H ∧ ∀ (p : Addr) (os : List Int) (H' : Hp), H' p = some (.tup (os.map V.int)) → (os.length ≤ 300 ∧ ∀ c ∈ os, 0 ≤ c ∧ c ≤ 255) → LB K S l H' → Keep S H H' → Q (.ref p) H'
theorem keep_away {S : SC} {H H' : Hp} {D : Addr} {o : HO} (k : Keep S H H') (n : H D = none) : Keep S H (upd H' D o) := fun b u hb h => by
  rw [upd_ne (fun e => by rw [e, n] at h; cases h)]
  exact k b u hb h
theorem LB.away {K : Frg} {S : SC} {H H1 : Hp} {l l1 : Int} (L1 : LB K S l1 H1) {D : Addr} (hD : H1 D = none) (L : LB K S l H) (o : HO) : LB K S l (upd H D o) := by
  refine ⟨L1.ls.away hD L.ls o, ?_⟩
  obtain ⟨_, k1, f1, e1⟩ := L1
  obtain ⟨_, k, f, e⟩ := L
  exact ⟨k, f, (upd_ne (fun z => by rw [z, hD] at e1; cases e1)).trans e⟩
def menu22 : List Int := [97, 98, 34, 92, 47, 10, 9, 1, 31, 127, 128, 233, 2047, 2048, 8364, 55295, 57344, 65535, 65536, 128512, 1114111, 48]
theorem menu22_in : ∀ v ∈ menu22, Point v := by
  intro v hv
  have h : ∀ v ∈ menu22, 0 ≤ v ∧ v ≤ 1114111 ∧ (v < 55296 ∨ 57344 ≤ v) := by decide
  exact h v hv
theorem pt_low {v : Int} (h0 : 0 ≤ v) (h1 : v < 55296) : Point v := ⟨h0, by omega, .inl h1⟩
section
variable {P : Program} {w : World} {K : PySem.W.Frag} {mg : Str → Option Value} {base : Heap} {f : Addr} {fd : FuncData}
theorem ok__law_big (F : FunD K "_law_big" "_law_big" (defArgs s__law_big) (defBody s__law_big) (defScope s__law_big) [] [] (glAd "_law_big" K) fd) (m : mg "_law_big" = some (.ref (glAd "_law_big" K))) (nb : Nm K mg) (c__law_cell : Cal P w K mg base 1 "_law_cell" (sp__law_cell K) []) (c__law_next : Cal P w K mg base 1 "_law_next" (sp__law_next K) []) : Cal P w K mg base 2 "_law_big" (sp__law_big K) [] := by
  refine calD F m sc__law_big (fun _ _ _ _ _ _ us hl => match us, hl with | [_, _], _ => rfl) len2 (fun cdv A outer s H vs Q E hr h => ⟨_, (pss_cons (ps_set (i := 2) sc__law_big.nd rfl (Or.inl rfl) (pe_callB call_abs (by rfl) nb.abs (by decide +kernel) (pa_cons (pe_c c__law_cell hr (by decide) rfl (pa_cons (pe_ix ix_list (pv 0) pe_int (fun _ _ => rfl)) (pa_cons (pe_op op_add pe_int (pe_c c__law_next hr (by decide) rfl (pa_cons (pv 0) (pa_cons pe_int pa_nil)))) pa_nil))) pa_nil)))
    (pss_one (ps_ret (pe_op op_mod (pe_callTy call_int1 (by rfl) nb.int (by decide +kernel) (pa_cons (pe_op op_add (pe_op op_mul (pv 2) pe_int) (pe_c c__law_next hr (by decide) rfl (pa_cons (pv 0) (pa_cons pe_int pa_nil)))) pa_nil)) (pv 1))))), ?_⟩)
  obtain ⟨_, _, rfl, S, l, mm, rfl, rfl, h0, L, h⟩ := h
  obtain ⟨k, f5, e⟩ := L.at_
  walk_at "rd"
  refine r_ixL (SqL.of e) rfl ?_
  walk_at "rd"
  refine b_next L (by decide) fun r1 H1 a1 b1 L1 k1 => ?_
  walk_at "rd"
  refine ⟨_, _, rfl, S.sl, S.ns, _, rfl, rfl, L1.ls.scr, by omega, fun z => ?_⟩
  walk_at "rd"
  refine b_next L1 (by decide) fun r2 H2 a2 b2 L2 k2 => ?_
  walk_at "rd"
  refine r_I h0 ?_
  exact h _ _ (Int.emod_nonneg _ (by omega)) (Int.emod_lt_of_pos _ h0) L2 (k1.trans k2)
theorem ok__law_normal (F : FunD K "_law_normal" "_law_normal" (defArgs s__law_normal) (defBody s__law_normal) (defScope s__law_normal) [] [] (glAd "_law_normal" K) fd) (m : mg "_law_normal" = some (.ref (glAd "_law_normal" K))) (nb : Nm K mg) : Cal P w K mg base 1 "_law_normal" sp__law_normal [] := by
  refine calD F m sc__law_normal (fun _ _ _ _ _ _ us hl => match us, hl with | [_, _], _ => rfl) len2 (fun cdv A outer s H vs Q E hr h => ⟨_, (pss_cons (ps_if (pt_cmpR op_eq (pv 0) pe_int (nomark _))
    (pss_one (ps_ret (pe_tupE (pa_cons pe_int (pa_cons pe_int pa_nil)))))
    pss_nil)
    (pss_cons (ps_for PassesOwn.never rfl (pi_range1 rfl nb.range (pa_cons pe_int pa_nil)) (pg_name (i := 2) sc__law_normal.nd rfl (Or.inl rfl))
    (pss_cons (ps_if (pt_cmpR op_ne (pe_op op_mod (pe_callTy call_int1 (by rfl) nb.int (by decide +kernel) (pa_cons (pv 0) pa_nil)) pe_int) pe_int (nomark _))
    (pss_one (ps_ret (pe_tupE (pa_cons (pv 0) (pa_cons (pv 1) pa_nil)))))
    pss_nil)
    (pss_cons (ps_set (i := 0) sc__law_normal.nd rfl (Or.inl rfl) (pe_op op_fdiv (pv 0) pe_int))
    (pss_one (ps_set (i := 1) sc__law_normal.nd rfl (Or.inl rfl) (pe_op op_add (pv 1) pe_int))))))
    (pss_one (ps_ret (pe_tupE (pa_cons (pv 0) (pa_cons (pv 1) pa_nil))))))), ?_⟩)
  obtain ⟨a, b, rfl, h0⟩ := h
  obtain ⟨m, e, rfl, rfl, h⟩ : ∃ m e : Int, a = .int m ∧ b = .int e ∧ ∀ (p : Addr) (m' e' : Int) (H' : Hp), (nrm m e = (m', e') ∨ (10 ^ 3001 ≤ m.natAbs ∧ e + 3001 ≤ e' ∧ e' ≤ (nrm m e).2)) → H p = none → H' p = some (.tup [.int m', .int e']) → Same H H' → Q (.ref p) H' := by
    rcases h0 with ⟨m, e, rfl, rfl, hm, h⟩ | ⟨m, e, rfl, rfl, h⟩
    · refine ⟨m, e, rfl, rfl, fun p m' e' H' q => ?_⟩
      rcases q with q | q
      · exact h p m' e' H' q
      · have h3 : (10 : Nat) ^ 100 ≤ 10 ^ 3001 := Nat.pow_le_pow_right (by decide) (by decide)
        exact absurd hm (by omega)
    · exact ⟨m, e, rfl, rfl, fun p m' e' H' q => h p m' e' H' (q.imp id fun z => z.2)⟩
  walk_at "rf"
  refine r_ite (fun c => ?_) (fun c => ?_)
  · walk_at "rf"
    exact ⟨by show 2 ≤ sizeLine; decide, fun p H' np g s => h p _ _ H' (.inl (by rw [c, nrm_zero])) np g s⟩
  walk_at "rf"
  refine r_turns (by decide) (by decide) (fun i σ H' => H = H' ∧ ∃ (m' e' : Int) (y : Option V), nrm m' e' = nrm m e ∧ m' ≠ 0 ∧ m'.natAbs * 10 ^ i ≤ m.natAbs ∧ e' = e + (i : Nat) ∧ σ = [some (.int m'), some (.int e'), y]) ⟨rfl, m, e, none, rfl, c, by simp, by simp, rfl⟩ ?_ ?_
  · rintro i σ _ hi ⟨rfl, m', e', y, hm1, hm2, hm3, he, rfl⟩
    walk_at "rf"
    refine r_iten (fun c => ?_) (fun c => ?_)
    · walk_at "rf"
      exact ⟨by show 2 ≤ sizeLine; decide, fun p H' np g s => h p _ _ H' (.inl (by rw [← hm1, nrm_stop e' c])) np g s⟩
    · walk_at "rf"
      refine ⟨rfl, _, _, _, by rw [← nrm_step e' hm2 c]; exact hm1, by omega, ?_, by omega, rfl⟩
      have e1 : m'.natAbs = (m' / 10).natAbs * 10 := by omega
      rw [Nat.pow_succ, Nat.mul_comm (10 ^ i), ← Nat.mul_assoc, ← e1]
      exact hm3
  · rintro σ _ ⟨rfl, m', e', y, hm1, hm2, hm3, he, rfl⟩
    have h1 : 1 ≤ m'.natAbs := by omega
    have h2 : 10 ^ 3001 ≤ m.natAbs := Nat.le_trans (Nat.le_trans (Nat.le_of_eq (Nat.one_mul _).symm) (Nat.mul_le_mul_right (10 ^ 3001) h1)) hm3
    have h4 := nrm_ge e' hm2
    rw [hm1] at h4
    have he : e' = e + ((3001 : Nat) : Int) := he
    walk_at "rf"
    exact ⟨by show 2 ≤ sizeLine; decide, fun p H' np g s => h p _ _ H' (.inr ⟨h2, by omega, h4⟩) np g s⟩
theorem ok__law_many (F : FunD K "_law_many" "_law_many" (defArgs s__law_many) (defBody s__law_many) (defScope s__law_many) [] [] (glAd "_law_many" K) fd) (m : mg "_law_many" = some (.ref (glAd "_law_many" K))) (nb : Nm K mg) (c__law_next : Cal P w K mg base 1 "_law_next" (sp__law_next K) []) : Cal P w K mg base 2 "_law_many" (sp__law_many K) [] := by
  refine calD F m sc__law_many (fun _ _ _ _ _ _ us hl => match us, hl with | [_, _], _ => rfl) len2 (fun cdv A outer s H vs Q E hr h => ⟨_, (pss_cons (ps_if (PW.pt (pw_and (pt_cmpR op_gt (pe_ix ix_list (pv 0) pe_int (fun _ _ => rfl)) pe_int (nomark _)) (pw_and1 (pt_cmpR op_eq (pe_c c__law_next hr (by decide) rfl (pa_cons (pv 0) (pa_cons pe_int pa_nil))) pe_int (nomark _)))))
    (pss_cons (ps_asg (pe_op op_sub (pe_ix ix_list (pv 0) pe_int (fun _ _ => rfl)) pe_int) (pg_sub (pv 0) pe_int set_list))
    (pss_one (ps_ret (pe_op op_add pe_int (pe_c c__law_next hr (by decide) rfl (pa_cons (pv 0) (pa_cons (pe_op op_sub (pv 1) pe_int) pa_nil)))))))
    pss_nil)
    (pss_one (ps_ret (pe_c c__law_next hr (by decide) rfl (pa_cons (pv 0) (pa_cons pe_int pa_nil)))))), ?_⟩)
  obtain ⟨_, _, rfl, S, l, mo, rfl, rfl, hmo, L, h⟩ := h
  obtain ⟨kk, f5, e⟩ := L.at_
  walk_at "rf"
  refine r_ixL (SqL.of e) rfl ?_
  walk_at "rf"
  refine r_ite (fun c => ?_) (fun c => ?_)
  · walk_at "rf"
    refine b_next L (by decide) fun r3 H3 a3 b3 L3 k3 => ?_
    walk_at "rf"
    refine r_ite (fun c2 => ?_) (fun c2 => ?_)
    · obtain ⟨kk, f5, e⟩ := L3.at_
      walk_at "rf"
      refine r_ixL (SqL.of e) rfl ?_
      walk_at "rf"
      refine r_setL e rfl ?_
      walk_at "rf"
      have L4 := L3.put kk l (f5 - 1)
      have k4 := k3.trans (Keep.put (H := H3) (.lst [.ref S.nl, .int kk, .int l, .ref S.sl, .int (f5 - 1)]))
      refine b_next L4 (by omega) fun r5 H5 a5 b5 L5 k5 => ?_
      walk_at "rf"
      exact h _ _ (by omega) (by omega) L5 (k4.trans k5)
    · walk_at "rf"
      refine b_next L3 (by decide) fun r5 H5 a5 b5 L5 k5 => ?_
      exact h _ _ a5 (by omega) L5 (k3.trans k5)
  · walk_at "rf"
    refine b_next L (by decide) fun r5 H5 a5 b5 L5 k5 => ?_
    exact h _ _ a5 (by omega) L5 k5
theorem ok__law_points (F : FunD K "_law_points" "_law_points" (defArgs s__law_points) (defBody s__law_points) (defScope s__law_points) [] [] (glAd "_law_points" K) fd) (m : mg "_law_points" = some (.ref (glAd "_law_points" K))) (nb : Nm K mg) (c__law_next : Cal P w K mg base 1 "_law_next" (sp__law_next K) []) (c__law_many : Cal P w K mg base 2 "_law_many" (sp__law_many K) []) : Cal P w K mg base 3 "_law_points" (sp__law_points K) [] := by
  refine calD F m sc__law_points (fun _ _ _ _ _ _ us hl => match us, hl with | [_], _ => rfl) len1 (fun cdv A outer s H vs Q E hr h => ⟨_, (pss_cons (ps_set (i := 1) sc__law_points.nd rfl (Or.inl rfl) (pe_lstE (pa_cons pe_int (pa_cons pe_int (pa_cons pe_int (pa_cons pe_int (pa_cons pe_int (pa_cons pe_int (pa_cons pe_int (pa_cons pe_int (pa_cons pe_int (pa_cons pe_int (pa_cons pe_int (pa_cons pe_int (pa_cons pe_int (pa_cons pe_int (pa_cons pe_int (pa_cons pe_int (pa_cons pe_int (pa_cons pe_int (pa_cons pe_int (pa_cons pe_int (pa_cons pe_int (pa_cons pe_int pa_nil))))))))))))))))))))))))
    (pss_cons (ps_set (i := 2) sc__law_points.nd rfl (Or.inl rfl) (pe_lstE pa_nil))
    (pss_cons (ps_for PassesOwn.never rfl (pi_range1 rfl nb.range (pa_cons (pe_c c__law_many hr (by decide) rfl (pa_cons (pv 0) (pa_cons pe_int pa_nil))) pa_nil)) (pg_name (i := 3) sc__law_points.nd rfl (Or.inl rfl))
    (pss_cons (ps_set (i := 4) sc__law_points.nd rfl (Or.inl rfl) (pe_c c__law_next hr (by decide) rfl (pa_cons (pv 0) (pa_cons pe_int pa_nil))))
    (pss_cons (ps_set (i := 5) sc__law_points.nd rfl (Or.inl rfl) (pe_op op_add pe_int (pe_c c__law_next hr (by decide) rfl (pa_cons (pv 0) (pa_cons pe_int pa_nil)))))
    (pss_cut (ps_if (pt_cmpR op_eq (pv 4) pe_int (nomark _))
    (pss_one (ps_set (i := 5) sc__law_points.nd rfl (Or.inl rfl) (pe_ix ix_list (pv 1) (pe_c c__law_next hr (by decide) rfl (pa_cons (pv 0) (pa_cons pe_int pa_nil))) (fun _ _ => rfl))))
    (pss_one (ps_if (pt_cmpR op_eq (pv 4) pe_int (nomark _))
    (pss_one (ps_set (i := 5) sc__law_points.nd rfl (Or.inl rfl) (pe_c c__law_next hr (by decide) rfl (pa_cons (pv 0) (pa_cons pe_int pa_nil)))))
    (pss_one (ps_if (pt_cmpR op_eq (pv 4) pe_int (nomark _))
    (pss_cons (ps_set (i := 5) sc__law_points.nd rfl (Or.inl rfl) (pe_op op_add (pe_op op_add (pe_op op_mul pe_int (pe_c c__law_next hr (by decide) rfl (pa_cons (pv 0) (pa_cons pe_int pa_nil)))) (pe_c c__law_next hr (by decide) rfl (pa_cons (pv 0) (pa_cons pe_int pa_nil)))) (pe_op op_mul pe_int (pe_c c__law_next hr (by decide) rfl (pa_cons (pv 0) (pa_cons pe_int pa_nil))))))
    (pss_one (ps_set (i := 5) sc__law_points.nd rfl (Or.inl rfl) (pe_op op_add (pv 5) (pe_op op_mul pe_int (pe_callTy call_int1 (by rfl) nb.int (by decide +kernel) (pa_cons (pe_cmpR op_gt (pv 5) pe_int (nomark _)) pa_nil)))))))
    pss_nil)))))
    (pss_one (ps_expr (pe_bm PySem.F.plainAttrs_list PySem.F.slot_list_append PySem.F.type_list_append mt_append (pv 2) (pa_cons (pv 5) pa_nil))))))))
    (pss_one (ps_ret (pe_callTy call_tuple_ofE (by rfl) nb.tuple (by decide +kernel) (pa_cons (pv 2) pa_nil))))))), ?_⟩)
  obtain ⟨_, rfl, S, l, rfl, L, h⟩ := h
  walk_at "rf"
  refine ⟨by show 22 ≤ sizeLine; decide, fun pm H1 nm g1 s1 => ?_⟩
  have L1 := L.same s1
  have ne1 := L.ne_free nm
  walk_at "rf"
  refine ⟨by show 0 ≤ sizeLine; decide, fun q H2 nq g2 s2 => ?_⟩
  have L2 := L1.same s2
  have ne2 := L1.ne_free nq
  have pq : pm ≠ q := Same.ne nq g1
  have nq0 : H q = none := s1.free nq
  walk_at "rf"
  refine ⟨_, _, rfl, S, l, 140, rfl, rfl, by decide, L2, fun many H3 a3 b3 L3 k3 => ?_⟩
  have g13 := k3 _ _ ne1 (s2 _ _ g1)
  have g23 := k3 _ _ ne2 g2
  have kk3 : Keep S H H3 := (Keep.of (s1.trans s2)).trans k3
  walk_at "rf"
  refine r_turns (by omega) (by omega) (fun i σ H' => LB K S l H' ∧ Keep S H H' ∧ i ≤ 139 ∧ ∃ (ps : List Int) (y3 y4 y5 : Option V), ps.length = i ∧ (∀ c ∈ ps, Point c) ∧ H' pm = some (.lst (menu22.map V.int)) ∧ H' q = some (.lst (ps.map V.int)) ∧ σ = [some (.ref S.a), some (.ref pm), some (.ref q), y3, y4, y5]) ⟨L3, kk3, Nat.zero_le _, [], _, _, _, rfl, (fun c h => by cases h), g13, g23, rfl⟩ ?_ ?_
  · rintro i σ H4 hi ⟨L4, k4, hi2, ps, y3, y4, y5, hl, hp, g4, q4, rfl⟩
    have put : ∀ (H5 : Hp) (c : Int) (z4 z5 : Option V), LB K S l H5 → Keep S H4 H5 → Point c → ∀ H6, H6 q = some (.lst (ps.map V.int ++ [.int c])) → Eb q H5 H6 → LB K S l H6 ∧ Keep S H H6 ∧ i + 1 ≤ 139 ∧ ∃ (ps : List Int) (y3 y4 y5 : Option V), ps.length = i + 1 ∧ (∀ c ∈ ps, Point c) ∧ H6 pm = some (.lst (menu22.map V.int)) ∧ H6 q = some (.lst (ps.map V.int)) ∧ [some (V.ref S.a), some (.ref pm), some (.ref q), some (.int (i : Nat)), z4, z5] = [some (.ref S.a), some (.ref pm), some (.ref q), y3, y4, y5] := fun H5 c z4 z5 L5 k5 hc H6 g6 f6 => by
      have e6 : H6 = upd H5 q (.lst (ps.map V.int ++ [.int c])) := by
        funext b
        by_cases hb : b = q
        · rw [hb, g6, upd_same]
        · rw [f6.1 b hb, upd_ne hb]
      subst e6
      refine ⟨L.away nq0 L5 _, keep_away (k4.trans k5) nq0, by omega, ps ++ [c], _, z4, z5, by rw [List.length_append, hl]; rfl, fun d hd => ?_, f6.get pq (k5 _ _ ne1 g4), by rw [g6, map_snoc], rfl⟩
      rcases List.mem_append.mp hd with z | z
      · exact hp d z
      · rw [List.mem_singleton.mp z]; exact hc
    walk_at "rf"
    refine b_next L4 (by decide) fun pick H5 a5 b5 L5 k5 => ?_
    walk_at "rf"
    refine b_next L5 (by decide) fun r6 H6 a6 b6 L6 k6 => ?_
    have k6 := k5.trans k6
    have sm : (ps.map V.int).length < sizeLine := small1000 (by rw [List.length_map]; omega)
    walk_at "rf"
    refine r_cut (fun σ H' => LB K S l H' ∧ Keep S H4 H' ∧ ∃ c, Point c ∧ ∃ y4, σ = [some (.ref S.a), some (.ref pm), some (.ref q), some (.int (i : Nat)), y4, some (.int c)]) ?_ ?_
    · walk_at "rf"
      refine r_ite (fun c => ?_) (fun c => ?_)
      · walk_at "rf"
        refine b_next L6 (by decide) fun r7 H7 a7 b7 L7 k7 => ?_
        obtain ⟨v, hv, ev⟩ := atI_ints (ns := menu22) (k := r7) a7 b7
        have g7 := k7 _ _ ne1 (k6 _ _ ne1 g4)
        walk_at "rf"
        refine r_ixL (SqL.of g7) ev ?_
        walk_at "rf"
        exact ⟨L7, k6.trans k7, v, menu22_in v hv, _, rfl⟩
      walk_at "rf"
      refine r_ite (fun c => ?_) (fun c => ?_)
      · walk_at "rf"
        refine b_next L6 (by decide) fun r7 H7 a7 b7 L7 k7 => ?_
        walk_at "rf"
        exact ⟨L7, k6.trans k7, r7, pt_low a7 (by omega), _, rfl⟩
      walk_at "rf"
      refine r_ite (fun c => ?_) (fun c => ?_)
      · walk_at "rf"
        refine b_next L6 (by decide) fun r7 H7 a7 b7 L7 k7 => ?_
        walk_at "rf"
        refine b_next L7 (by decide) fun r8 H8 a8 b8 L8 k8 => ?_
        walk_at "rf"
        refine b_next L8 (by decide) fun r9 H9 a9 b9 L9 k9 => ?_
        walk_at "rf"
        refine .inr ⟨_, rfl, ?_⟩
        walk_at "rf"
        refine ⟨L9, ((k6.trans k7).trans k8).trans k9, _, ?_, _, rfl⟩
        unfold Point
        split
        · rename_i z
          have z := of_decide_eq_true z
          omega
        · rename_i z
          have z : ¬ _ := fun q => z (decide_eq_true q)
          omega
      · walk_at "rf"
        exact ⟨L6, k6, _, pt_low (by omega) (by omega), _, rfl⟩
    · rintro σ H7 ⟨L7, k7, c, hc, y4, rfl⟩
      walk_at "rf"
      refine ⟨tyL (k7 _ _ ne2 q4), ?_⟩
      walk_at "rf"
      refine r_appE (k7 _ _ ne2 q4) sm fun H8 g8 f8 => ?_
      exact put H7 c y4 _ L7 k7 hc H8 g8 f8
  · rintro σ H4 ⟨L4, k4, hi2, ps, y3, y4, y5, hl, hp, g4, q4, rfl⟩
    walk_at "rf"
    refine r_toT (SqL.of q4) fun t H5 nt g5 s5 => ?_
    exact h t ps H5 g5 ⟨by omega, hp⟩ (L4.same s5) (k4.trans (Keep.of s5))
theorem ok__law_octets (F : FunD K "_law_octets" "_law_octets" (defArgs s__law_octets) (defBody s__law_octets) (defScope s__law_octets) [] [] (glAd "_law_octets" K) fd) (m : mg "_law_octets" = some (.ref (glAd "_law_octets" K))) (nb : Nm K mg) (c__law_next : Cal P w K mg base 1 "_law_next" (sp__law_next K) []) (c__law_many : Cal P w K mg base 2 "_law_many" (sp__law_many K) []) : Cal P w K mg base 3 "_law_octets" (sp__law_octets K) [] := by
  refine calD F m sc__law_octets (fun _ _ _ _ _ _ us hl => match us, hl with | [_], _ => rfl) len1 (fun cdv A outer s H vs Q E hr h => ⟨_, (pss_cons (ps_set (i := 1) sc__law_octets.nd rfl (Or.inl rfl) (pe_c c__law_many hr (by decide) rfl (pa_cons (pv 0) (pa_cons pe_int pa_nil))))
    (pss_cons (ps_asg (pe_ix ix_list (pe_lstE (pa_cons (pe_tupE (pa_cons pe_int (pa_cons pe_int pa_nil))) (pa_cons (pe_tupE (pa_cons pe_int (pa_cons pe_int pa_nil))) (pa_cons (pe_tupE (pa_cons pe_int (pa_cons pe_int pa_nil))) (pa_cons (pe_tupE (pa_cons pe_int (pa_cons pe_int pa_nil))) (pa_cons (pe_tupE (pa_cons pe_int (pa_cons pe_int pa_nil))) pa_nil)))))) (pe_c c__law_next hr (by decide) rfl (pa_cons (pv 0) (pa_cons pe_int pa_nil))) (fun _ _ => rfl)) (pg_tup rfl (pgs_cons (pg_name (i := 2) sc__law_octets.nd rfl (Or.inr rfl)) (pgs_cons (pg_name (i := 3) sc__law_octets.nd rfl (Or.inr rfl)) pgs_nil))))
    (pss_one (ps_ret (pe_callTy call_tuple_ofE (by rfl) nb.tuple (by decide +kernel) (pa_cons (pe_lc (own := [("k", 4)]) (g := gName 4) (tt := tYes) rfl sc__law_octets.nd (pi_range1 rfl nb.range (pa_cons (pv 1) pa_nil)) (blkOk_by (N := ["state", "many", "low", "span", "k"]) (sc := defScope s__law_octets) (by decide +kernel)) (fun _ _ _ _ _ => pg_name (i := 4) sc__law_octets.nd rfl (Or.inl rfl)) (fun _ _ _ _ _ => pts_nil) (fun _ _ _ _ _ => (pe_op op_add (pv 2) (pe_c c__law_next hr (by decide) rfl (pa_cons (pv 0) (pa_cons (pv 3) pa_nil)))))) pa_nil)))))), ?_⟩)
  obtain ⟨_, rfl, S, l, rfl, L, h⟩ := h
  walk_at "rf"
  refine ⟨_, _, rfl, S, l, 280, rfl, rfl, by decide, L, fun m H3 hm0 hm1 L3 k3 => ?_⟩
  walk_at "rf"
  refine ⟨by show 2 ≤ sizeLine; decide, fun t1 H4 n1 g1 s1 => ?_⟩
  walk_at "rf"
  refine ⟨by show 2 ≤ sizeLine; decide, fun t2 H5 n2 g2 s2 => ?_⟩
  walk_at "rf"
  refine ⟨by show 2 ≤ sizeLine; decide, fun t3 H6 n3 g3 s3 => ?_⟩
  walk_at "rf"
  refine ⟨by show 2 ≤ sizeLine; decide, fun t4 H7 n4 g4 s4 => ?_⟩
  walk_at "rf"
  refine ⟨by show 2 ≤ sizeLine; decide, fun t5 H8 n5 g5 s5 => ?_⟩
  walk_at "rf"
  refine ⟨by show 5 ≤ sizeLine; decide, fun p9 H9 n9 g9 s9 => ?_⟩
  have L9 := L3.same (((((s1.trans s2).trans s3).trans s4).trans s5).trans s9)
  have k9 := k3.trans (Keep.of (((((s1.trans s2).trans s3).trans s4).trans s5).trans s9))
  have ne9 := (L3.same ((((s1.trans s2).trans s3).trans s4).trans s5)).ne_free n9
  have G1 := s9 _ _ (s5 _ _ (s4 _ _ (s3 _ _ (s2 _ _ g1))))
  have G2 := s9 _ _ (s5 _ _ (s4 _ _ (s3 _ _ g2)))
  have G3 := s9 _ _ (s5 _ _ (s4 _ _ g3))
  have G4 := s9 _ _ (s5 _ _ g4)
  have G5 := s9 _ _ g5
  walk_at "rf"
  refine b_next L9 (by decide) fun r H10 a10 b10 L10 k10 => ?_
  have tk := keep_tk L9.ls k10
  obtain ⟨t, lo, sp, et, ht, hsp, hlo, hhi⟩ : ∃ t lo sp, atI [V.ref t1, .ref t2, .ref t3, .ref t4, .ref t5] r = some (V.ref t) ∧ H10 t = some (.tup [.int lo, .int sp]) ∧ 0 < sp ∧ 0 ≤ lo ∧ lo + sp ≤ 256 := by
    have : r = 0 ∨ r = 1 ∨ r = 2 ∨ r = 3 ∨ r = 4 := by omega
    rcases this with e | e | e | e | e <;> subst e
    · exact ⟨t1, 0, 256, rfl, tk _ _ G1, by decide, by decide, by decide⟩
    · exact ⟨t2, 32, 95, rfl, tk _ _ G2, by decide, by decide, by decide⟩
    · exact ⟨t3, 97, 26, rfl, tk _ _ G3, by decide, by decide, by decide⟩
    · exact ⟨t4, 42, 49, rfl, tk _ _ G4, by decide, by decide, by decide⟩
    · exact ⟨t5, 48, 10, rfl, tk _ _ G5, by decide, by decide, by decide⟩
  have k10' := k9.trans k10
  refine r_ixL (SqL.of (k10 _ _ ne9 g9)) et ?_
  refine r_gtup (SqT.of ht) rfl ?_
  walk_at "rf"
  refine ⟨by omega, by omega, fun D nD => ?_⟩
  have DS := L10.ne_free nD
  have nD0 : H D = none := k10'.free L10.ls nD
  refine lc_range (fun i H' => LB K S l H' ∧ Keep S H H' ∧ i ≤ 279 ∧ ∃ cs : List Int, cs.length = i ∧ (∀ c ∈ cs, 0 ≤ c ∧ c ≤ 255) ∧ H' D = some (.lst (cs.map V.int))) ⟨L10.new nD _, k10'.trans (Keep.of (same_upd nD _)), Nat.zero_le _, [], rfl, (fun c h => by cases h), upd_same⟩ ?_ ?_
  · rintro i H11 hi ⟨L11, k11, hi2, cs, e1, eo, e2⟩
    walk_at "rf"
    refine ⟨rfl, ?_⟩
    walk_at "rf"
    refine b_next L11 hsp fun c H12 a12 b12 L12 k12 => ?_
    walk_at "rf"
    refine ⟨_, k12 _ _ DS e2, small1000 (by rw [List.length_map]; omega), L10.away nD L12 _, keep_away (k11.trans k12) nD0, by omega, cs ++ [lo + c], by rw [List.length_append, e1]; rfl, fun x hx => ?_, by rw [upd_same, map_snoc]⟩
    rcases List.mem_append.mp hx with z | z
    · exact eo x z
    · rw [List.mem_singleton.mp z]
      omega
  rintro H11 ⟨L11, k11, hi2, cs, e1, eo, e2⟩
  walk_at "rf"
  refine r_toT (SqL.of e2) fun t H12 nt g12 s12 => ?_
  exact h t cs H12 g12 ⟨by omega, eo⟩ (L11.same s12) (k11.trans (Keep.of s12))
end

theorem r_par {σ : St} {H : Hp} {n b c : St → Hp → Prop} {r : VK} {i j : Nat} {ta : TA} (h : ta σ H fun vs H1 => ∃ v w, vs = [v, w] ∧ n ((σ.set i (some v)).set j (some w)) H1) : tPar i j ta ⟨n, r, b, c⟩ σ H := h
theorem r_pair {x y : V} {R : V → V → Prop} (h : R x y) : ∃ v w, [x, y] = [v, w] ∧ R v w := ⟨x, y, rfl, h⟩
local macro_rules | `(tactic| walk_at "rd1") => `(tactic| first | (with_reducible refine r_par ?_) | (with_reducible refine r_pair ?_))


def sp__law_number (K : Frg) : Sp := sp2 fun a b H Q _ => ∃ S l, a = .ref S.a ∧ b = .bl false ∧ LB K S l H ∧ ∀ (v : V) (m e : Int) (H' : Hp), Nf m e → m.natAbs < 10 ^ 60 → Tp H' v (.tuple [.str "number", .int m, .int e]) → LB K S l H' → Keep S H H' → Q v H'
def sp__law_leaf (K : Frg) : Sp := sp2 fun a b H Q _ => ∃ S l kl, a = .ref S.a ∧ b = .ref kl ∧ kl ≠ S.a ∧ H kl = some (.lst [.str "number", .str "bytes"]) ∧ LB K S l H ∧ ∀ (v : V) (k : Str) (r : List PyData) (H' : Hp), Lb k r → Tp H' v (.tuple (.str k :: r)) → LB K S l H' → Keep S H H' → Q v H'
def edges13 : List Int := [9, 10, 99, 100, 255, 256, 999, 2 ^ 31, 2 ^ 32, 2 ^ 63, 2 ^ 64, 10 ^ 20, 10 ^ 30]
theorem edges13_in : ∀ v ∈ edges13, 0 ≤ v ∧ v ≤ 10 ^ 30 := by decide +kernel
/-- what the branches leave -/
def MidN (K : Frg) (S : SC) (l : Int) (H : Hp) (pick sg : Int) (σ : St) (H' : Hp) : Prop := LB K S l H' ∧ Keep S H H' ∧ ∃ (m e : Int) (y6 y7 y8 : Option V), Nf m e ∧ m.natAbs < 10 ^ 60 ∧ σ = [some (.ref S.a), some (.bl false), some (.int pick), some (.int sg), some (.int m), some (.int e), y6, y7, y8]
theorem nf_of {m e m' e' : Int} (hm : m.natAbs < 10 ^ 60) (he : 0 ≤ e) (he2 : e ≤ 100) (h : nrm m e = (m', e')) : Nf m' e' ∧ m'.natAbs < 10 ^ 60 := by
  by_cases c : m = 0
  · rw [c, nrm_zero] at h
    injection h with h1 h2
    exact ⟨.inl ⟨h1.symm, h2.symm⟩, by rw [← h1]; decide⟩
  · obtain ⟨a, k, e1, e2, e3⟩ := nrm_of e c
    rw [e1] at h
    injection h with h1 h2
    have hle : a.natAbs ≤ m.natAbs := by
      rw [e3, Int.natAbs_mul, natAbs10]
      exact Nat.le_mul_of_pos_right _ (Nat.pow_pos (by decide))
    have hk : k < 60 := by
      rcases Nat.lt_or_ge k 60 with q | q
      · exact q
      · exfalso
        have ha : 1 ≤ a.natAbs := by omega
        have h3 : 10 ^ 60 ≤ m.natAbs := by
          rw [e3, Int.natAbs_mul, natAbs10]
          exact Nat.le_trans (pow10_le q) (Nat.le_trans (Nat.le_of_eq (Nat.one_mul _).symm) (Nat.mul_le_mul_right _ ha))
        omega
    exact ⟨.inr ⟨by rw [← h1]; exact e2, by omega, by omega⟩, by rw [← h1]; omega⟩
section
variable {P : Program} {w : World} {K : PySem.W.Frag} {mg : Str → Option Value} {base : Heap} {f : Addr} {fd : FuncData}
theorem ok__law_number (F : FunD K "_law_number" "_law_number" (defArgs s__law_number) (defBody s__law_number) (defScope s__law_number) [] [] (glAd "_law_number" K) fd) (m : mg "_law_number" = some (.ref (glAd "_law_number" K))) (nb : Nm K mg) (c__law_next : Cal P w K mg base 1 "_law_next" (sp__law_next K) []) (c__law_big : Cal P w K mg base 2 "_law_big" (sp__law_big K) []) (c__law_normal : Cal P w K mg base 1 "_law_normal" sp__law_normal []) : Cal P w K mg base 3 "_law_number" (sp__law_number K) [] := by
  refine calD F m sc__law_number (fun _ _ _ _ _ _ us hl => match us, hl with | [_, _], _ => rfl) len2 (fun cdv A outer s H vs Q E hr h => ⟨_, (pss_cons (ps_set (i := 2) sc__law_number.nd rfl (Or.inl rfl) (pe_c c__law_next hr (by decide) rfl (pa_cons (pv 0) (pa_cons pe_int pa_nil))))
    (pss_cons (ps_set (i := 3) sc__law_number.nd rfl (Or.inl rfl) (pe_ix ix_list (pe_lstE (pa_cons pe_int (pa_cons (pe_un un_neg pe_int) pa_nil))) (pe_c c__law_next hr (by decide) rfl (pa_cons (pv 0) (pa_cons pe_int pa_nil))) (fun _ _ => rfl)))
    (pss_cons (ps_asg (pe_c c__law_normal hr (by decide) rfl (pa_cons (pe_op op_mul (pv 3) (pe_c c__law_next hr (by decide) rfl (pa_cons (pv 0) (pa_cons pe_int pa_nil)))) (pa_cons pe_int pa_nil))) (pg_tup rfl (pgs_cons (pg_name (i := 4) sc__law_number.nd rfl (Or.inl rfl)) (pgs_cons (pg_name (i := 5) sc__law_number.nd rfl (Or.inl rfl)) pgs_nil))))
    (pss_cut (ps_if (PW.pt (pw_and (pt_cmpR op_gt (pv 2) pe_int (nomark _)) (pw_and1 (pt_cmpR op_lt (pv 2) pe_int (nomark _)))))
    (pss_cons (ps_set (i := 6) sc__law_number.nd rfl (Or.inl rfl) (pe_ix ix_list (pe_lstE (pa_cons pe_int (pa_cons pe_int (pa_cons pe_int (pa_cons pe_int (pa_cons pe_int (pa_cons pe_int (pa_cons pe_int (pa_cons (pe_op op_pow pe_int pe_int) (pa_cons (pe_op op_pow pe_int pe_int) (pa_cons (pe_op op_pow pe_int pe_int) (pa_cons (pe_op op_pow pe_int pe_int) (pa_cons (pe_op op_pow pe_int pe_int) (pa_cons (pe_op op_pow pe_int pe_int) pa_nil)))))))))))))) (pe_c c__law_next hr (by decide) rfl (pa_cons (pv 0) (pa_cons pe_int pa_nil))) (fun _ _ => rfl)))
    (pss_one (ps_asg (pe_c c__law_normal hr (by decide) rfl (pa_cons (pe_op op_mul (pv 3) (pe_op op_sub (pe_op op_add (pv 6) (pe_c c__law_next hr (by decide) rfl (pa_cons (pv 0) (pa_cons pe_int pa_nil)))) pe_int)) (pa_cons pe_int pa_nil))) (pg_tup rfl (pgs_cons (pg_name (i := 4) sc__law_number.nd rfl (Or.inl rfl)) (pgs_cons (pg_name (i := 5) sc__law_number.nd rfl (Or.inl rfl)) pgs_nil))))))
    (pss_one (ps_if (PW.pt (pw_and (pt_cmpR op_gt (pv 2) pe_int (nomark _)) (pw_and1 (pt_cmpR op_lt (pv 2) pe_int (nomark _)))))
    (pss_one (ps_asg (pe_c c__law_normal hr (by decide) rfl (pa_cons (pe_op op_mul (pv 3) (pe_c c__law_next hr (by decide) rfl (pa_cons (pv 0) (pa_cons pe_int pa_nil)))) (pa_cons (pe_c c__law_next hr (by decide) rfl (pa_cons (pv 0) (pa_cons pe_int pa_nil))) pa_nil))) (pg_tup rfl (pgs_cons (pg_name (i := 4) sc__law_number.nd rfl (Or.inl rfl)) (pgs_cons (pg_name (i := 5) sc__law_number.nd rfl (Or.inl rfl)) pgs_nil)))))
    (pss_one (ps_if (PW.pt (pw_and (pt_cmpR op_eq (pv 2) pe_int (nomark _)) (pw_and1 (pt_cmpR op_gt (pe_ix ix_list (pv 0) pe_int (fun _ _ => rfl)) pe_int (nomark _)))))
    (pss_cons (ps_asg (pe_op op_sub (pe_ix ix_list (pv 0) pe_int (fun _ _ => rfl)) pe_int) (pg_sub (pv 0) pe_int set_list))
    (pss_one (ps_par (i := 4) (j := 5) rfl sc__law_number.nd rfl rfl (by decide) rfl rfl (pa_cons (pe_op op_mul (pv 3) (pe_op op_add pe_int (pe_op op_mul pe_int (pe_c c__law_next hr (by decide) rfl (pa_cons (pv 0) (pa_cons pe_int pa_nil)))))) (pa_cons (pe_op op_sub pe_int (pe_c c__law_next hr (by decide) rfl (pa_cons (pv 0) (pa_cons pe_int pa_nil)))) pa_nil)) rfl)))
    (pss_one (ps_if (pt_cmpR op_gt (pv 2) pe_int (nomark _))
    (pss_cons (ps_set (i := 7) sc__law_number.nd rfl (Or.inl rfl) pe_int)
    (pss_cons (ps_for PassesOwn.never rfl (pi_range1 rfl nb.range (pa_cons (pe_c c__law_next hr (by decide) rfl (pa_cons (pv 0) (pa_cons pe_int pa_nil))) pa_nil)) (pg_name (i := 8) sc__law_number.nd rfl (Or.inl rfl))
    (pss_one (ps_set (i := 7) sc__law_number.nd rfl (Or.inl rfl) (pe_op op_mul (pv 7) pe_int))))
    (pss_one (ps_asg (pe_c c__law_normal hr (by decide) rfl (pa_cons (pe_op op_mul (pv 3) (pe_c c__law_big hr (by decide) rfl (pa_cons (pv 0) (pa_cons (pv 7) pa_nil)))) (pa_cons (pe_c c__law_next hr (by decide) rfl (pa_cons (pv 0) (pa_cons pe_int pa_nil))) pa_nil))) (pg_tup rfl (pgs_cons (pg_name (i := 4) sc__law_number.nd rfl (Or.inl rfl)) (pgs_cons (pg_name (i := 5) sc__law_number.nd rfl (Or.inl rfl)) pgs_nil)))))))
    pss_nil)))))))
    (pss_cut (ps_if (pt_val (pv 1))
    (pss_cons (ps_set (i := 5) sc__law_number.nd rfl (Or.inl rfl) (pe_ix ix_list (pe_lstE (pa_cons pe_int (pa_cons pe_int (pa_cons (pe_un un_neg pe_int) (pa_cons (pe_op op_sub (pe_un un_neg pe_int) (pe_c c__law_next hr (by decide) rfl (pa_cons (pv 0) (pa_cons pe_int pa_nil)))) (pa_cons (pe_op op_add pe_int (pe_c c__law_next hr (by decide) rfl (pa_cons (pv 0) (pa_cons pe_int pa_nil)))) (pa_cons (pe_op op_pow pe_int pe_int) (pa_cons (pe_op op_pow pe_int pe_int) (pa_cons (pe_un un_neg (pe_op op_pow pe_int pe_int)) pa_nil))))))))) (pe_c c__law_next hr (by decide) rfl (pa_cons (pv 0) (pa_cons pe_int pa_nil))) (fun _ _ => rfl)))
    (pss_one (ps_set (i := 4) sc__law_number.nd rfl (Or.inl rfl) (pe_op op_mul (pv 3) (pe_op op_add pe_int (pe_op op_mul pe_int (pe_c c__law_next hr (by decide) rfl (pa_cons (pv 0) (pa_cons pe_int pa_nil)))))))))
    pss_nil)
    (pss_one (ps_ret (pe_tupE (pa_cons pe_str (pa_cons (pv 4) (pa_cons (pv 5) pa_nil))))))))))), ?_⟩)
  obtain ⟨_, _, rfl, S, l, rfl, rfl, L, h⟩ := h
  have e60 : (10 : Nat) ^ 60 = 1000000000000000000000000000000000000000000000000000000000000 := by decide
  have e100 : (10 : Nat) ^ 60 < 10 ^ 100 := by decide
  walk_at "rf"
  refine b_next L (by decide) fun pick H1 a1 b1 L1 k1 => ?_
  walk_at "rf"
  refine ⟨by show 2 ≤ sizeLine; decide, fun p2 H2 n2 g2 s2 => ?_⟩
  have L2 := L1.same s2
  have ne2 := L1.ne_free n2
  have k2 := k1.trans (Keep.of s2)
  walk_at "rf"
  refine b_next L2 (by decide) fun r3 H3 a3 b3 L3 k3 => ?_
  obtain ⟨sg, esg, hsg⟩ : ∃ sg : Int, atI [V.int 1, V.int (-1)] r3 = some (.int sg) ∧ (sg = 1 ∨ sg = -1) := by
    have : r3 = 0 ∨ r3 = 1 := by omega
    rcases this with e | e <;> subst e
    · exact ⟨1, rfl, .inl rfl⟩
    · exact ⟨-1, rfl, .inr rfl⟩
  refine r_ixL (SqL.of (k3 _ _ ne2 g2)) esg ?_
  have k3 := k2.trans k3
  clear L1 L2 k1 k2 s2 g2 n2 ne2
  have mulok : ∀ x : Int, sg * x = x ∨ sg * x = -x := fun x => by
    rcases hsg with e | e <;> subst e
    · exact .inl (Int.one_mul x)
    · exact .inr (by omega)
  walk_at "rf"
  refine b_next L3 (by decide) fun r4 H4 a4 b4 L4 k4 => ?_
  have k4 := k3.trans k4
  refine r_I (.inl ⟨by omega, by omega⟩) ?_
  walk_at "rf"
  have m4 := mulok r4
  refine ⟨_, _, rfl, .inl ⟨sg * r4, 0, rfl, rfl, by omega, fun p5 m0 e0 H5 nr5 n5 g5 s5 => ?_⟩⟩
  obtain ⟨nf0, hm0⟩ := nf_of (m := sg * r4) (e := 0) (by omega) (by decide) (by decide) nr5
  refine r_gtup (SqT.of g5) rfl ?_
  have L5 := L4.same s5
  have k5 := k4.trans (Keep.of s5)
  clear L3 L4 k3 k4 s5 g5 n5
  walk_at "rg"
  refine r_cut (MidN K S l H pick sg) ?_ ?_
  · have base_ : MidN K S l H pick sg [some (.ref S.a), some (.bl false), some (.int pick), some (.int sg), some (.int m0), some (.int e0), none, none, none] H5 := ⟨L5, k5, m0, e0, _, _, _, nf0, hm0, rfl⟩
    walk_at "rg"
    refine r_ifB (decide (pick > 3 ∧ pick < 6)) (fun R hR => ?_) ?_
    · walk_at "rf"
      refine r_ite (fun c => ?_) (fun c => ?_)
      · have e : decide (pick > 3 ∧ pick < 6) = decide (pick < 6) := decide_eq_decide.mpr ⟨And.right, fun q => ⟨c, q⟩⟩
        rw [e] at hR
        walk_at "rf"
        exact hR
      · rw [decide_eq_false (fun z => c z.1)] at hR
        exact hR
    refine r_ite (fun c => ?_) (fun c => ?_)
    · walk_at "rf"
      refine ⟨by show 13 ≤ sizeLine; decide, fun p6 H6 n6 g6 s6 => ?_⟩
      have g6 : H6 p6 = some (.lst (edges13.map V.int)) := g6
      have L6 := L5.same s6
      have ne6 := L5.ne_free n6
      walk_at "rf"
      refine b_next L6 (by decide) fun r7 H7 a7 b7 L7 k7 => ?_
      obtain ⟨v, hv, ev⟩ := atI_ints (ns := edges13) (k := r7) a7 b7
      have hv2 := edges13_in v hv
      have e30 : (10 : Int) ^ 30 = 1000000000000000000000000000000 := by decide
      rw [e30] at hv2
      refine r_ixL (SqL.of (k7 _ _ ne6 g6)) ev ?_
      have k7 := (k5.trans (Keep.of s6)).trans k7
      walk_at "rf"
      refine b_next L7 (by decide) fun r8 H8 a8 b8 L8 k8 => ?_
      walk_at "rf"
      refine r_I (.inl ⟨by omega, by omega⟩) ?_
      walk_at "rf"
      have m8 := mulok (v + r8 - 1)
      refine ⟨_, _, rfl, .inl ⟨sg * (v + r8 - 1), 0, rfl, rfl, by omega, fun p9 m' e' H9 nr9 n9 g9 s9 => ?_⟩⟩
      obtain ⟨nf1, hm1⟩ := nf_of (m := sg * (v + r8 - 1)) (e := 0) (by omega) (by decide) (by decide) nr9
      refine r_gtup (SqT.of g9) rfl ?_
      walk_at "rf"
      exact ⟨L8.same s9, (k7.trans k8).trans (Keep.of s9), _, _, _, _, _, nf1, hm1, rfl⟩
    walk_at "rg"
    refine r_ifB (decide (pick > 5 ∧ pick < 8)) (fun R hR => ?_) ?_
    · walk_at "rf"
      refine r_ite (fun c => ?_) (fun c => ?_)
      · have e : decide (pick > 5 ∧ pick < 8) = decide (pick < 8) := decide_eq_decide.mpr ⟨And.right, fun q => ⟨c, q⟩⟩
        rw [e] at hR
        walk_at "rf"
        exact hR
      · rw [decide_eq_false (fun z => c z.1)] at hR
        exact hR
    refine r_ite (fun c => ?_) (fun c => ?_)
    · walk_at "rf"
      refine b_next L5 (by decide) fun r7 H7 a7 b7 L7 k7 => ?_
      refine r_I (.inl ⟨by omega, by omega⟩) ?_
      walk_at "rf"
      refine b_next L7 (by decide) fun r8 H8 a8 b8 L8 k8 => ?_
      walk_at "rf"
      have m8 := mulok r7
      refine ⟨_, _, rfl, .inl ⟨sg * r7, r8, rfl, rfl, by omega, fun p9 m' e' H9 nr9 n9 g9 s9 => ?_⟩⟩
      obtain ⟨nf1, hm1⟩ := nf_of (m := sg * r7) (e := r8) (by omega) a8 (by omega) nr9
      refine r_gtup (SqT.of g9) rfl ?_
      walk_at "rf"
      exact ⟨L8.same s9, ((k5.trans k7).trans k8).trans (Keep.of s9), _, _, _, _, _, nf1, hm1, rfl⟩
    obtain ⟨kk, f5, e5⟩ := L5.at_
    walk_at "rg"
    refine r_ifB (decide (pick = 8 ∧ f5 > 0)) (fun R hR => ?_) ?_
    · walk_at "rf"
      refine r_ite (fun c => ?_) (fun c => ?_)
      · have e : decide (pick = 8 ∧ f5 > 0) = decide (f5 > 0) := decide_eq_decide.mpr ⟨And.right, fun q => ⟨c, q⟩⟩
        rw [e] at hR
        walk_at "rf"
        refine r_ixL (SqL.of e5) rfl ?_
        walk_at "rf"
        exact hR
      · rw [decide_eq_false (fun z => c z.1)] at hR
        exact hR
    refine r_ite (fun c => ?_) (fun c => ?_)
    · walk_at "rf"
      refine r_ixL (SqL.of e5) rfl ?_
      walk_at "rf"
      refine r_setL e5 rfl ?_
      walk_at "rf"
      have L6 := L5.put kk l (f5 - 1)
      have k6 := k5.trans (Keep.put (H := H5) (.lst [.ref S.nl, .int kk, .int l, .ref S.sl, .int (f5 - 1)]))
      refine b_next L6 (by decide) fun r7 H7 a7 b7 L7 k7 => ?_
      walk_at "rf"
      refine r_I (.inl ⟨by omega, by omega⟩) ?_
      walk_at "rf"
      refine b_next L7 (by decide) fun r8 H8 a8 b8 L8 k8 => ?_
      walk_at "rf"
      have m8 := mulok (1 + 10 * r7)
      have nfx : Nf (sg * (1 + 10 * r7)) (800 - r8) ∧ (sg * (1 + 10 * r7)).natAbs < 10 ^ 60 := ⟨.inr ⟨by omega, by omega, by omega⟩, by omega⟩
      exact ⟨L8, (k6.trans k7).trans k8, _, _, _, _, _, nfx.1, nfx.2, rfl⟩
    walk_at "rf"
    refine r_ite (fun c => ?_) (fun c => ?_)
    · walk_at "rf"
      refine b_next L5 (by decide) fun r7 H7 a7 b7 L7 k7 => ?_
      have k7 := k5.trans k7
      walk_at "rf"
      refine r_turns (by omega) (by omega) (fun i σ H' => H7 = H' ∧ i ≤ 24 ∧ ∃ (y8 : Option V), σ = [some (.ref S.a), some (.bl false), some (.int pick), some (.int sg), some (.int m0), some (.int e0), none, some (.int (10 ^ (i + 1))), y8]) ⟨rfl, Nat.zero_le _, none, rfl⟩ ?_ ?_
      · rintro i σ _ hi ⟨rfl, hi2, y8, rfl⟩
        walk_at "rf"
        exact ⟨rfl, by omega, _, rfl⟩
      · rintro σ _ ⟨rfl, hi2, y8, rfl⟩
        walk_at "rf"
        refine ⟨_, _, rfl, S, l, _, rfl, rfl, Int.pow_pos (by decide), L7, fun r8 H8 a8 b8 L8 k8 => ?_⟩
        have hr8 : r8.natAbs < 10 ^ 30 := by
          have h1 : (10 : Int) ^ (r7.toNat + 1) ≤ 10 ^ 30 := by
            have h2 := pow10_le (a := r7.toNat + 1) (b := 30) (by omega)
            exact_mod_cast h2
          have : (10 : Int) ^ 30 = ((10 ^ 30 : Nat) : Int) := by rw [Int.natCast_pow]; rfl
          omega
        have e30 : (10 : Nat) ^ 30 = 1000000000000000000000000000000 := by decide
        rw [e30] at hr8
        walk_at "rf"
        refine r_I (.inl ⟨by omega, by omega⟩) ?_
        walk_at "rf"
        refine b_next L8 (by decide) fun r9 H9 a9 b9 L9 k9 => ?_
        walk_at "rf"
        have m8 := mulok r8
        refine ⟨_, _, rfl, .inl ⟨sg * r8, r9, rfl, rfl, by omega, fun pa m' e' Ha nra na ga sa => ?_⟩⟩
        obtain ⟨nf1, hm1⟩ := nf_of (m := sg * r8) (e := r9) (by omega) a9 (by omega) nra
        refine r_gtup (SqT.of ga) rfl ?_
        walk_at "rf"
        exact ⟨L9.same sa, ((k7.trans k8).trans k9).trans (Keep.of sa), _, _, _, _, _, nf1, hm1, rfl⟩
    · walk_at "rf"
      exact base_
  · rintro σ H6 ⟨L6, k6, m, e, y6, y7, y8, nf, hm, rfl⟩
    walk_at "rf"
    refine r_cut (MidN K S l H pick sg) ?_ ?_
    · walk_at "rf"
      exact ⟨L6, k6, m, e, y6, y7, y8, nf, hm, rfl⟩
    · rintro σ H6 ⟨L6, k6, m, e, y6, y7, y8, nf, hm, rfl⟩
      walk_at "rf"
      refine ⟨by show 3 ≤ sizeLine; decide, fun q H7 nq g7 s7 => ?_⟩
      exact h (.ref q) m e H7 nf hm (.tup g7 (.cons (.str _) (.cons (.int _) (.cons (.int _) .nil)))) (L6.same s7) (k6.trans (Keep.of s7))
theorem ok__law_leaf (F : FunD K "_law_leaf" "_law_leaf" (defArgs s__law_leaf) (defBody s__law_leaf) (defScope s__law_leaf) [] [] (glAd "_law_leaf" K) fd) (m : mg "_law_leaf" = some (.ref (glAd "_law_leaf" K))) (nb : Nm K mg) (c__law_next : Cal P w K mg base 1 "_law_next" (sp__law_next K) []) (c__law_number : Cal P w K mg base 3 "_law_number" (sp__law_number K) []) (c__law_points : Cal P w K mg base 3 "_law_points" (sp__law_points K) []) (c__law_octets : Cal P w K mg base 3 "_law_octets" (sp__law_octets K) []) : Cal P w K mg base 4 "_law_leaf" (sp__law_leaf K) [] := by
  refine calD F m sc__law_leaf (fun _ _ _ _ _ _ us hl => match us, hl with | [_, _], _ => rfl) len2 (fun cdv A outer s H vs Q E hr h => ⟨_, (pss_cons (ps_set (i := 2) sc__law_leaf.nd rfl (Or.inl rfl) (pe_ix ix_list (pv 1) (pe_c c__law_next hr (by decide) rfl (pa_cons (pv 0) (pa_cons (pe_callB call_len_seq (by rfl) nb.len PySem.boot_len (pa_cons (pv 1) pa_nil)) pa_nil))) (fun _ _ => rfl)))
    (pss_cons (ps_if (pt_cmpR op_eq (pv 2) pe_str (nomark _))
    (pss_one (ps_ret (pe_tupE (pa_cons pe_str (pa_cons (pe_cmpR op_eq (pe_c c__law_next hr (by decide) rfl (pa_cons (pv 0) (pa_cons pe_int pa_nil))) pe_int (nomark _)) pa_nil)))))
    pss_nil)
    (pss_cons (ps_if (PW.pt (pw_or (pt_cmpR op_eq (pv 2) pe_str (nomark _)) (pw_or1 (pt_cmpR op_eq (pv 2) pe_str (nomark _)))))
    (pss_one (ps_ret (pe_c c__law_number hr (by decide) rfl (pa_cons (pv 0) (pa_cons (pe_cmpR op_eq (pv 2) pe_str (nomark _)) pa_nil)))))
    pss_nil)
    (pss_cons (ps_if (pt_cmpR op_eq (pv 2) pe_str (nomark _))
    (pss_one (ps_ret (pe_tupE (pa_cons pe_str (pa_cons (pe_c c__law_octets hr (by decide) rfl (pa_cons (pv 0) pa_nil)) pa_nil)))))
    pss_nil)
    (pss_cons (ps_if (pt_cmpR op_eq (pv 2) pe_str (nomark _))
    (pss_one (ps_ret (pe_tupE (pa_cons pe_str (pa_cons (pe_c c__law_points hr (by decide) rfl (pa_cons (pv 0) pa_nil)) pa_nil)))))
    pss_nil)
    (pss_one (ps_ret (pe_tupE (pa_cons pe_str pa_nil))))))))), ?_⟩)
  obtain ⟨_, _, rfl, S, l, kl, rfl, rfl, hne, hk, L, h⟩ := h
  walk_at "rf"
  refine ⟨kl, _, rfl, .inl (SqL.of hk), ?_⟩
  walk_at "rf"
  refine b_next L (by decide) fun r1 H1 a1 b1 L1 k1 => ?_
  have hk1 := k1 _ _ hne hk
  have : r1 = 0 ∨ r1 = 1 := by
    have b1 : r1 < 2 := b1
    omega
  rcases this with e | e <;> subst e
  · refine r_ixL (v := .str "number") (SqL.of hk1) rfl ?_
    walk_at "rf"
    refine r_iteN (show ¬ ("number" : Str) = "truth" by decide +kernel) ?_
    walk_at "rf"
    refine r_itep (show ("number" : Str) = "number" from rfl) ?_
    walk_at "rf"
    refine ⟨_, _, rfl, S, l, rfl, congrArg V.bl (decide_eq_false (show ¬ ("number" : Str) = "far" by decide +kernel)), L1, fun v m e H2 nf hm tp L2 k2 => ?_⟩
    exact h v "number" _ H2 (.number m e nf hm) tp L2 (k1.trans k2)
  · refine r_ixL (v := .str "bytes") (SqL.of hk1) rfl ?_
    walk_at "rf"
    refine r_iteN (show ¬ ("bytes" : Str) = "truth" by decide +kernel) ?_
    walk_at "rf"
    refine r_iteN (show ¬ ("bytes" : Str) = "number" by decide +kernel) ?_
    walk_at "rf"
    refine r_iteN (show ¬ ("bytes" : Str) = "far" by decide +kernel) ?_
    walk_at "rf"
    refine r_itep (show ("bytes" : Str) = "bytes" from rfl) ?_
    walk_at "rf"
    refine ⟨_, rfl, S, l, rfl, L1, fun p os H2 g2 ho L2 k2 => ?_⟩
    walk_at "rf"
    refine ⟨by show 2 ≤ sizeLine; decide, fun q H3 nq g3 s3 => ?_⟩
    exact h (.ref q) "bytes" _ H3 (.bytes os ho) (.tup g3 (.cons (.str _) (.cons (tp_kd (s3 _ _ g2)) .nil))) (L2.same s3) ((k1.trans k2).trans (Keep.of s3))
end


/-- what the budget l, gone down to l', allows for a value of size n -/
def Bud (l l' : Int) (n : Nat) : Prop := (n : Int) + 1 ≤ 2 * (l - l') ∧ l - l' ≤ 1 + 49 * (max l 0 - max l' 0)
/-- the same for k values, of size n together -/
def BudL (l l' : Int) (n k : Nat) : Prop := (n : Int) + k ≤ 2 * (l - l') ∧ l - l' ≤ k + 49 * (max l 0 - max l' 0)
theorem budL_nil (l : Int) : BudL l l 0 0 := by unfold BudL; omega
theorem budL_cons {l l1 l2 : Int} {n m k : Nat} (a : BudL l l1 n k) (b : Bud l1 l2 m) : BudL l l2 (n + m) (k + 1) := by
  unfold BudL Bud at *
  omega
theorem bud_node {l l' : Int} {n k : Nat} (hl : 0 < l - 1) (hk : k ≤ 49) (a : BudL (l - 1) l' n k) : Bud l l' (1 + n) := by
  unfold BudL at a
  unfold Bud
  omega
theorem bud_map {l l' : Int} {n k : Nat} (hl : 0 < l - 1) (hk : k ≤ 49) (a : BudL (l - 1) l' n k) : Bud l l' (1 + (n + k)) := by
  unfold BudL at a
  unfold Bud
  omega
theorem bud_leaf {l : Int} {n : Nat} (h : n ≤ 1) : Bud l (l - 1) n := by
  unfold Bud
  omega
mutual
/-- how large it is -/
def vsz : Vl → Nat
  | .ls xs => 1 + vszL xs
  | .mp es => 1 + vszM es
  | .lf _ _ => 1
def vszL : List Vl → Nat
  | [] => 0
  | x :: xs => vsz x + vszL xs
def vszM : List (List Int × Vl) → Nat
  | [] => 0
  | (_, v) :: es => 1 + vsz v + vszM es
end
theorem bfL_app {n : Nat} {xs ys : List Vl} (h1 : bfL n xs) (h2 : bfL n ys) : bfL n (xs ++ ys) := bfL_of fun x hx => by
  rcases List.mem_append.mp hx with q | q
  · exact bfL_mem h1 x q
  · exact bfL_mem h2 x q
theorem bf_leaf {k : Str} {r : List PyData} (h : Lb k r) (n : Nat) : (Vl.lf k r).bf n := by cases n <;> exact h
theorem vszL_app : ∀ (xs ys : List Vl), vszL (xs ++ ys) = vszL xs + vszL ys
  | [], ys => (Nat.zero_add _).symm
  | x :: xs, ys => by
    show vsz x + vszL (xs ++ ys) = vsz x + vszL xs + vszL ys
    rw [vszL_app xs ys, Nat.add_assoc]
theorem vszM_sum : ∀ es : List (List Int × Vl), vszM es = (es.map fun e => vsz e.2).sum + es.length
  | [] => rfl
  | (k, v) :: es => by
    show 1 + vsz v + vszM es = (vsz v + (es.map fun e => vsz e.2).sum) + (es.length + 1)
    rw [vszM_sum es]
    omega
/-- an entry and its value -/
def EvF (H : Hp) (n : Nat) (e : Ent × Vl) : Prop := EntAt H e.1 ∧ Tp H (.ref e.1.u) e.2.dat ∧ e.2.bf n ∧ Kp e.1.k
theorem EvF.tk {H H' : Hp} {n : Nat} {e : Ent × Vl} (k : Tk H H') (h : EvF H n e) : EvF H' n e := ⟨h.1.tk k, Tp.tk k _ _ h.2.1, h.2.2⟩
theorem tpa_entF {H : Hp} {n : Nat} {zs : List (Ent × Vl)} (h : ∀ e ∈ zs, EvF H n e) : TpAll H ((zs.map fun e => e.1).map fun e => V.ref e.t) (datM (zs.map fun e => (e.1.k, e.2))) := by
  rw [datM_map, List.map_map, List.map_map]
  exact tpa_map fun e he => .tup (h e he).1.1 (.cons (tp_kd (h e he).1.2) (.cons (h e he).2.1 .nil))
def sp__law_value (K : Frg) (n : Nat) : Sp := sp4 fun a d k m H Q _ => ∃ (S : SC) (l : Int) (deep : Nat) (kl : Addr), a = .ref S.a ∧ d = .int (deep : Nat) ∧ k = .ref kl ∧ m = .bl true ∧ kl ≠ S.a ∧ H kl = some (.lst [.str "number", .str "bytes"]) ∧ deep < n ∧ LB K S l H ∧
  ∀ (v : V) (t : Vl) (l' : Int) (H' : Hp), t.bf deep → Bud l l' (vsz t) → Tp H' v t.dat → LB K S l' H' → Keep S H H' → Q v H'
theorem no__law_value {K : Frg} {vs : List V} {H : Hp} {Q : VK} {E : XK} (h : sp__law_value K 0 vs H Q E) : False := by
  obtain ⟨_, _, _, _, rfl, S, l, deep, kl, _, _, _, _, _, _, h, _⟩ := h
  exact absurd h (Nat.not_lt_zero _)
section
variable {P : Program} {w : World} {K : PySem.W.Frag} {mg : Str → Option Value} {base : Heap} {f : Addr} {fd : FuncData}
theorem ok__law_value (n : Nat) (F : FunD K "_law_value" "_law_value" (defArgs s__law_value) (defBody s__law_value) (defScope s__law_value) [] [] (glAd "_law_value" K) fd) (m : mg "_law_value" = some (.ref (glAd "_law_value" K))) (nb : Nm K mg) (c__law_next : Cal P w K mg base 1 "_law_next" (sp__law_next K) []) (c__law_many : Cal P w K mg base 2 "_law_many" (sp__law_many K) []) (c__law_points : Cal P w K mg base 3 "_law_points" (sp__law_points K) []) (c__law_leaf : Cal P w K mg base 4 "_law_leaf" (sp__law_leaf K) []) (c__law_value : Cal P w K mg base (5 + n) "_law_value" (sp__law_value K n) []) : Cal P w K mg base (5 + n + 1) "_law_value" (sp__law_value K (n + 1)) [] := by
  refine calD F m sc__law_value (fun _ _ _ _ _ _ us hl => match us, hl with | [_, _, _, _], _ => rfl) len4 (fun cdv A outer s H vs Q E hr h => ⟨_, (pss_cons (ps_asg (pe_op op_sub (pe_ix ix_list (pv 0) pe_int (fun _ _ => rfl)) pe_int) (pg_sub (pv 0) pe_int set_list))
    (pss_cons (ps_set (i := 4) sc__law_value.nd rfl (Or.inl rfl) (pe_c c__law_next hr (by omega) rfl (pa_cons (pv 0) (pa_cons pe_int pa_nil))))
    (pss_cons (ps_if (PW.pt (pw_or (pt_cmpR op_eq (pv 1) pe_int (nomark _)) (pw_or (pt_cmpR op_le (pe_ix ix_list (pv 0) pe_int (fun _ _ => rfl)) pe_int (nomark _)) (pw_or1 (pt_cmpR op_lt (pv 4) pe_int (nomark _))))))
    (pss_one (ps_ret (pe_c c__law_leaf hr (by omega) rfl (pa_cons (pv 0) (pa_cons (pv 2) pa_nil)))))
    pss_nil)
    (pss_cons (ps_set (i := 5) sc__law_value.nd rfl (Or.inl rfl) (pe_c c__law_many hr (by omega) rfl (pa_cons (pv 0) (pa_cons pe_int pa_nil))))
    (pss_cons (ps_if (PW.pt (pw_or (pt_cmpR op_eq (pv 4) pe_int (nomark _)) (pw_or1 (pt_not (pt_val (pv 3))))))
    (pss_one (ps_ret (pe_tup (pa_cons pe_str (pa_cons (pe_callTy call_tuple_of (by rfl) nb.tuple (by decide +kernel) (pa_cons (pe_lc (own := [("k", 6)]) (g := gName 6) (tt := tYes) rfl sc__law_value.nd (pi_range1 rfl nb.range (pa_cons (pv 5) pa_nil)) (blkOk_by (N := ["state", "deep", "kinds", "has_maps", "pick", "many", "k", "entries", "key", "entry"]) (sc := defScope s__law_value) (by decide +kernel)) (fun _ _ _ _ _ => pg_name (i := 6) sc__law_value.nd rfl (Or.inl rfl)) (fun _ _ _ _ _ => pts_nil) (fun _ _ _ _ _ => (pe_c c__law_value hr (by omega) rfl (pa_cons (pv 0) (pa_cons (pe_op op_sub (pv 1) pe_int) (pa_cons (pv 2) (pa_cons (pv 3) pa_nil))))))) pa_nil)) pa_nil)))))
    pss_nil)
    (pss_cons (ps_set (i := 7) sc__law_value.nd rfl (Or.inl rfl) (pe_lst pa_nil))
    (pss_cons (ps_for PassesOwn.never rfl (pi_range1 rfl nb.range (pa_cons (pv 5) pa_nil)) (pg_name (i := 6) sc__law_value.nd rfl (Or.inl rfl))
    (pss_cons (ps_set (i := 8) sc__law_value.nd rfl (Or.inl rfl) (pe_c c__law_points hr (by omega) rfl (pa_cons (pv 0) pa_nil)))
    (pss_one (ps_if (pt_cmpR (op_notInD (hu65 hr)) (pv 8) (pe_lc (own := [("entry", 9)]) (g := gName 9) (tt := tYes) rfl sc__law_value.nd (pi_list (pv 7)) (blkOk_by (N := ["state", "deep", "kinds", "has_maps", "pick", "many", "k", "entries", "key", "entry"]) (sc := defScope s__law_value) (by decide +kernel)) (fun _ _ _ _ _ => pg_name (i := 9) sc__law_value.nd rfl (Or.inl rfl)) (fun _ _ _ _ _ => pts_nil) (fun _ _ _ _ _ => (pe_ix (show IxR _ (rIxT K) from ix_tup) (pv 9) pe_int (fun _ _ => rfl)))) rfl)
    (pss_one (ps_expr (pe_bm PySem.F.plainAttrs_list PySem.F.slot_list_append PySem.F.type_list_append mt_append (pv 7) (pa_cons (pe_tup (pa_cons (pv 8) (pa_cons (pe_c c__law_value hr (by omega) rfl (pa_cons (pv 0) (pa_cons (pe_op op_sub (pv 1) pe_int) (pa_cons (pv 2) (pa_cons (pv 3) pa_nil))))) pa_nil))) pa_nil))))
    pss_nil))))
    (pss_one (ps_ret (pe_tup (pa_cons pe_str (pa_cons (pe_callTy call_tuple_of (by rfl) nb.tuple (by decide +kernel) (pa_cons (pe_callB (cr_sortedE hr.units) (by rfl) nb.sorted (by decide +kernel) (pa_cons (pv 7) pa_nil)) pa_nil)) pa_nil)))))))))))), ?_⟩)
  obtain ⟨_, _, _, _, rfl, S, l0, deep, kl, rfl, rfl, rfl, rfl, hkn, hk, hd, L, h⟩ := h
  obtain ⟨k0, f5, e⟩ := L.at_
  walk_at "rd"
  refine r_ixL (SqL.of e) rfl ?_
  walk_at "rd"
  refine r_setL e rfl ?_
  walk_at "rd"
  have L1 := L.put k0 (l0 - 1) f5
  have kk1 : Keep S H (upd H S.a (.lst [.ref S.nl, .int k0, .int (l0 - 1), .ref S.sl, .int f5])) := Keep.put _
  refine b_next L1 (by decide) fun pick H2 a2 b2 L2 k2 => ?_
  have k2 := kk1.trans k2
  clear L1 kk1
  obtain ⟨k0', f5', e2⟩ := L2.at_
  walk_at "ri"
  refine r_ifB (decide (deep = 0 ∨ l0 - 1 ≤ 0 ∨ pick < 2)) ?_ ?_
  · intro R hR
    walk_at "rd"
    refine r_ite (fun c => ?_) (fun c => ?_)
    · walk_at "rd"
      rw [decide_eq_true (.inl (by omega))] at hR
      exact hR
    walk_at "rd"
    refine r_ixL (SqL.of e2) rfl ?_
    walk_at "rd"
    refine r_ite (fun c2 => ?_) (fun c2 => ?_)
    · walk_at "rd"
      rw [decide_eq_true (.inr (.inl c2))] at hR
      exact hR
    walk_at "rd"
    have ed : decide (pick < 2) = decide (deep = 0 ∨ l0 - 1 ≤ 0 ∨ pick < 2) := decide_eq_decide.mpr ⟨fun q => .inr (.inr q), fun q => by omega⟩
    rw [ed]
    exact hR
  refine r_ite (fun c => ?_) (fun c => ?_)
  · walk_at "rd"
    exact ⟨_, _, rfl, S, _, kl, rfl, rfl, hkn, k2 _ _ hkn hk, L2, fun v k r H3 hl hv L3 k3 => h v (.lf k r) _ H3 (bf_leaf hl _) (bud_leaf (Nat.le_refl _)) hv L3 (k2.trans k3)⟩
  obtain ⟨deep, rfl⟩ : ∃ d, deep = d + 1 := ⟨deep - 1, by omega⟩
  have ed : ((deep + 1 : Nat) : Int) - 1 = ((deep : Nat) : Int) := by omega
  have hl0 : 0 < l0 - 1 := by omega
  clear e2
  walk_at "rd"
  refine ⟨_, _, rfl, S, _, 30, rfl, rfl, by decide, L2, fun m H4 hm0 hm1 L4 k4 => ?_⟩
  have k4 := k2.trans k4
  clear L2 k2
  walk_at "rd"
  refine r_ite (fun c => ?_) (fun c => ?_)
  · walk_at "rd"
    refine ⟨by omega, by omega, fun D nD => ?_⟩
    have DS := L4.ne_free nD
    have nD0 : H D = none := k4.free L4.ls nD
    refine lc_range (fun i H' => ∃ l' : Int, LB K S l' H' ∧ Keep S H H' ∧ ∃ (vs : List V) (ts : List Vl), ts.length = i ∧ BudL (l0 - 1) l' (vszL ts) i ∧ bfL deep ts ∧ TpAll H' vs (datL ts) ∧ H' D = some (.lst vs)) ⟨_, L4.new nD _, k4.trans (Keep.of (same_upd nD _)), [], [], rfl, budL_nil _, trivial, .nil, upd_same⟩ ?_ ?_
    · rintro i H5 hi ⟨l1, L5, k5, vs, ts, e1, eb, e2, e3, e4⟩
      walk_at "rd"
      refine ⟨rfl, ?_⟩
      walk_at "rd"
      refine ⟨_, _, _, _, rfl, S, l1, deep, kl, rfl, congrArg V.int ed, rfl, rfl, hkn, k5 _ _ hkn hk, by omega, L5, fun v t l2 H6 ok bd tp L6 k6 => ?_⟩
      have hD6 := k6 _ _ DS e4
      have hl : vs.length = i := by rw [tpAll_len e3, datL_map, List.length_map, e1]
      have tk6 := (keep_tk L5.ls k6).trans (tk_put (o := .lst (vs ++ [v])) hD6)
      refine ⟨vs, hD6, small1000 (by omega), l2, L4.away nD L6 _, keep_away (k5.trans k6) nD0, vs ++ [v], ts ++ [t], by rw [List.length_append, e1]; rfl, by rw [vszL_app]; exact budL_cons eb bd, bfL_app e2 ⟨ok, trivial⟩, ?_, upd_same⟩
      rw [datL_app]
      exact tpAll_app (TpAll.tk tk6 _ _ e3) (.cons (Tp.tk (tk_put hD6) _ _ tp) .nil)
    · rintro H5 ⟨l1, L5, k5, vs, ts, e1, eb, e2, e3, e4⟩
      walk_at "rd"
      refine ⟨D, _, rfl, .inl ⟨SqL.of e4, fun t nt => ?_⟩⟩
      walk_at "rd"
      refine ⟨by show 2 ≤ sizeLine; decide, fun q nq => ?_⟩
      have s7 := (same_upd nt (.tup vs)).trans (same_upd nq (.tup [.str "list", .ref t]))
      refine h (.ref q) (.ls ts) _ _ ⟨by omega, e2⟩ (bud_node hl0 (by omega) eb) (.tup upd_same (.cons (.str _) (.cons (.tup (same_upd nq _ _ _ upd_same) (TpAll.tk (Same.tk s7) _ _ e3)) .nil))) (L5.same s7) (k5.trans (Keep.of s7))
  · skip
    walk_at "rd"
    refine ⟨Nat.zero_le _, fun D nD => ?_⟩
    have DS := L4.ne_free nD
    have nD0 : H D = none := k4.free L4.ls nD
    walk_at "rd"
    refine r_turns (by omega) (by omega) (fun i σ H' => ∃ l' : Int, LB K S l' H' ∧ Keep S H H' ∧ ∃ (es : List (Ent × Vl)) (y4 y6 y7 : Option V), es.length ≤ i ∧ BudL (l0 - 1) l' ((es.map fun e => vsz e.2).sum) es.length ∧ (∀ e ∈ es, EvF H' deep e) ∧ (es.map (·.1.k)).Nodup ∧ H' D = some (.lst (es.map fun e => V.ref e.1.t)) ∧ σ = [some (.ref S.a), some (.int (deep + 1 : Nat)), some (.ref kl), some (.bl true), some (.int pick), some (.int m), y4, some (.ref D), y6, y7])
      ⟨_, L4.new nD _, k4.trans (Keep.of (same_upd nD _)), [], _, _, _, Nat.le_refl _, budL_nil _, fun _ h => absurd h (by simp), List.nodup_nil, upd_same, rfl⟩ ?_ ?_
    · rintro i σ H5 hi ⟨l1, L5, k5, es, y4, y6, y7, e1, eb, e2, e3, e4, rfl⟩
      walk_at "rd"
      refine ⟨_, rfl, S, l1, rfl, L5, fun q ps H6 hq hpl L6 k6 => ?_⟩
      have hD6 := k6 _ _ DS e4
      have e2 : ∀ e ∈ es, EvF H6 deep e := fun e he => (e2 e he).tk (keep_tk L5.ls k6)
      have k6 := k5.trans k6
      clear L5 k5 e4
      walk_at "rd"
      refine ⟨D, rfl, ⟨_, SqL.of hD6⟩, fun D2 nD2 => ?_⟩
      refine lc_list (xs := es.map fun e => V.ref e.1.t) (fun j H' => Same H6 H' ∧ H' D2 = some (.lst ((es.take j).map fun e => V.ref e.1.q))) ⟨same_upd nD2 _, upd_same⟩ (fun j H' _ hh => SqL.of (hh.1 _ _ hD6)) ?_ ?_
      · rintro j x H7 hx ⟨s7, g7⟩
        obtain ⟨en, hj, rfl, et⟩ := map_get hx
        walk_at "rd"
        refine ⟨rfl, ?_⟩
        walk_at "rd"
        refine r_ixT (SqT.of (s7 _ _ (e2 en (List.mem_of_getElem? hj)).1.1)) rfl ?_
        refine ⟨_, g7, small1000 (by rw [List.length_map, List.length_take]; omega), same_away s7 nD2, ?_⟩
        rw [upd_same, et, List.map_append]
        rfl
      rintro H7 ⟨s7, g7⟩
      rw [List.length_map, List.take_length] at g7
      have L7 := L6.same s7
      have k7 := k6.trans (Keep.of s7)
      have hD7 := s7 _ _ hD6
      have hq7 := s7 _ _ hq
      have e2 : ∀ e ∈ es, EvF H7 deep e := fun e he => (e2 e he).tk (Same.tk s7)
      clear L6 k6 hD6 hq s7
      refine ⟨kd ps, (es.map (·.1.k)).map kd, Tp.dp _ _ (tp_kd hq7), .lst (SqL.of g7) ?_, shaped_kd ps, shaped_kds _, ?_⟩
      · rw [List.map_map]
        exact dpa_map fun e he => Tp.dp _ _ (tp_kd (e2 e he).1.2)
      rw [eqv_kds]
      refine r_bl (r_iten (fun c => ?_) (fun c => ?_))
      · walk_at "rd"
        refine ⟨tyL hD7, ?_⟩
        walk_at "rd"
        refine ⟨_, _, _, _, rfl, S, l1, deep, kl, rfl, congrArg V.int ed, rfl, rfl, hkn, k7 _ _ hkn hk, by omega, L7, fun v t l2 H8 ok bd tp L8 k8 => ?_⟩
        obtain ⟨u, rfl⟩ := vl_ref tp
        have tk8 := keep_tk L7.ls k8
        have hD8 := k8 _ _ DS hD7
        walk_at "rd"
        refine ⟨by show 2 ≤ sizeLine; decide, fun T nT => ?_⟩
        have s9 := same_upd nT (.tup [.ref q, .ref u])
        have hD9 := s9 _ _ hD8
        have L9 := L8.new nT (.tup [.ref q, .ref u])
        walk_at "rd"
        refine r_app hD9 (small1000 (by rw [List.length_map]; omega)) ?_
        have tk9 := (Same.tk s9).trans (tk_put (o := .lst ((es.map fun e => V.ref e.1.t) ++ [.ref T])) hD9)
        refine ⟨l2, L4.away nD L9 _, keep_away ((k7.trans k8).trans (Keep.of s9)) nD0, es ++ [(⟨T, q, u, ps⟩, t)], _, _, _, by rw [List.length_append]; show es.length + 1 ≤ i + 1; omega, ?_, fun e he => ?_, ?_, ?_, rfl⟩
        · rw [List.map_append, List.sum_append, List.length_append]
          exact budL_cons eb bd
        · rcases List.mem_append.mp he with q1 | q1
          · exact (e2 e q1).tk (tk8.trans tk9)
          · have e5 : e = (⟨T, q, u, ps⟩, t) := by simpa using q1
            subst e5
            exact ⟨⟨tk_put hD9 _ _ upd_same, tk9 _ _ (tk8 _ _ hq7)⟩, Tp.tk tk9 _ _ tp, ok, hpl⟩
        · rw [List.map_append, List.nodup_append]
          refine ⟨e3, by simp, ?_⟩
          intro a ha b hb
          have eb : b = ps := by simpa using hb
          rw [eb]
          exact fun z => c (z ▸ ha)
        · rw [upd_same, List.map_append]
          rfl
      · walk_at "rd"
        exact ⟨l1, L7, k7, es, _, _, _, by omega, eb, e2, e3, hD7, rfl⟩
    · rintro σ H5 ⟨l1, L5, k5, es, y4, y6, y7, e1, eb, e2, e3, e4, rfl⟩
      walk_at "rd"
      refine ⟨D, es.map (·.1), rfl, ?_, fun e he => ?_, ?_, fun es' l' pe srt nl => ?_⟩
      · rw [List.map_map]
        exact SqL.of e4
      · obtain ⟨x, hx, rfl⟩ := List.mem_map.mp he
        exact (e2 x hx).1
      · rw [List.map_map]
        exact e3
      obtain ⟨zs, pz, rfl⟩ := perm_up (fun e : Ent × Vl => e.1) pe
      walk_at "rd"
      refine ⟨l', _, rfl, .inl ⟨SqL.of upd_same, fun t nt => ?_⟩⟩
      walk_at "rd"
      refine ⟨by show 2 ≤ sizeLine; decide, fun q nq => ?_⟩
      have s7 := ((same_upd nl (.lst ((zs.map fun e => e.1).map fun e => V.ref e.t))).trans (same_upd nt (.tup ((zs.map fun e => e.1).map fun e => V.ref e.t)))).trans (same_upd nq (.tup [.str "map", .ref t]))
      have e7 : ∀ e ∈ zs, EvF _ deep e := fun e he => (e2 e (pz.mem_iff.mp he)).tk (Same.tk s7)
      have ezl := pz.length_eq
      have ezs : (zs.map fun e => vsz e.2).sum = (es.map fun e => vsz e.2).sum := (pz.map _).sum_nat
      refine h (.ref q) (.mp (zs.map fun e => (e.1.k, e.2))) _ _ ⟨?_, ?_, ?_, ?_⟩ ?_ (.tup upd_same (.cons (.str _) (.cons (.tup (same_upd nq _ _ _ upd_same) ?_) .nil))) (L5.same s7) (k5.trans (Keep.of s7))
      · rw [List.length_map, ezl]
        omega
      · rw [List.map_map] at srt ⊢
        exact srt
      · intro e he
        obtain ⟨x, hx, rfl⟩ := List.mem_map.mp he
        exact (e7 x hx).2.2.2
      · refine bfM_of fun e he => ?_
        obtain ⟨x, hx, rfl⟩ := List.mem_map.mp he
        exact (e7 x hx).2.2.1
      · show Bud l0 l1 (1 + vszM (zs.map fun e => (e.1.k, e.2)))
        rw [vszM_sum, List.length_map, List.map_map, ezl]
        have ez2 : (zs.map ((fun e : List Int × Vl => vsz e.2) ∘ fun e : Ent × Vl => (e.1.k, e.2))).sum = (es.map fun e => vsz e.2).sum := ezs
        rw [ez2]
        exact bud_map hl0 (by omega) eb
      · exact tpa_entF e7
theorem rec__law_value (F : FunD K "_law_value" "_law_value" (defArgs s__law_value) (defBody s__law_value) (defScope s__law_value) [] [] (glAd "_law_value" K) fd) (m : mg "_law_value" = some (.ref (glAd "_law_value" K))) (nb : Nm K mg) (c__law_next : Cal P w K mg base 1 "_law_next" (sp__law_next K) []) (c__law_many : Cal P w K mg base 2 "_law_many" (sp__law_many K) []) (c__law_points : Cal P w K mg base 3 "_law_points" (sp__law_points K) []) (c__law_leaf : Cal P w K mg base 4 "_law_leaf" (sp__law_leaf K) []) : ∀ n, Cal P w K mg base (5 + n) "_law_value" (sp__law_value K n) []
  | 0 => calD (k := 4) F m sc__law_value (fun _ _ _ _ _ _ us hl => match us, hl with | [_, _, _, _], _ => rfl) (fun _ _ _ _ h => (no__law_value h).elim) (fun _ _ _ _ _ _ _ _ _ h => (no__law_value h).elim)
  | n + 1 => ok__law_value n F m nb c__law_next c__law_many c__law_points c__law_leaf (rec__law_value F m nb c__law_next c__law_many c__law_points c__law_leaf n)
end


def sp__law_tall (K : Frg) : Sp := sp3 fun a b c H Q _ => ∃ S l t, a = .ref S.a ∧ c = .bl true ∧ LB K S l H ∧ Tp H b (Vl.dat t) ∧ t.bf 4 ∧ ∀ (v : V) (t' : Vl) (n : Nat) (H' : Hp), n ≤ 29 → t'.bf n → vsz t' ≤ vsz t + 60 → Tp H' v t'.dat → LB K S l H' → Keep S H H' → Q v H'
theorem new_b {K : Frg} {S : SC} {l : Int} {H : Hp} {p : Addr} {o : HO} (L : LB K S l H) (hp : H p = none) : ∃ H', upd H p o = H' ∧ LB K S l H' ∧ Same H H' ∧ H' p = some o := ⟨_, rfl, L.new hp o, same_upd hp o, upd_same⟩

def sp__law_mixed (K : Frg) : Sp := sp2 fun a b H Q _ => ∃ (S : SC) (l : Int) (p : Addr) (xs : List V), a = .ref S.a ∧ b = .ref p ∧ H p = some (.tup xs) ∧ xs.length ≤ 1000 ∧ LB K S l H ∧ ∀ (q : Addr) (ys : List V) (H' : Hp), ys.Perm xs → H q = none → q ≠ S.a → H' q = some (.lst ys) → LB K S l H' → Keep S H H' → Q (.ref q) H'
section
variable {P : Program} {w : World} {K : PySem.W.Frag} {mg : Str → Option Value} {base : Heap} {f : Addr} {fd : FuncData}
theorem ok__law_tall (F : FunD K "_law_tall" "_law_tall" (defArgs s__law_tall) (defBody s__law_tall) (defScope s__law_tall) [] [] (glAd "_law_tall" K) fd) (m : mg "_law_tall" = some (.ref (glAd "_law_tall" K))) (nb : Nm K mg) (c__law_next : Cal P w K mg base 1 "_law_next" (sp__law_next K) []) : Cal P w K mg base 2 "_law_tall" (sp__law_tall K) [] := by
  refine calD F m sc__law_tall (fun _ _ _ _ _ _ us hl => match us, hl with | [_, _, _], _ => rfl) len3 (fun cdv A outer s H vs Q E hr h => ⟨_, (pss_cut (ps_if (pt_cmpR op_eq (pe_c c__law_next hr (by decide) rfl (pa_cons (pv 0) (pa_cons pe_int pa_nil))) pe_int (nomark _))
    (pss_one (ps_for PassesOwn.never rfl (pi_range1 rfl nb.range (pa_cons (pe_op op_add pe_int (pe_c c__law_next hr (by decide) rfl (pa_cons (pv 0) (pa_cons pe_int pa_nil)))) pa_nil)) (pg_name (i := 3) sc__law_tall.nd rfl (Or.inl rfl))
    (pss_one (ps_if (PW.pt (pw_and (pt_val (pv 2)) (pw_and1 (pt_cmpR op_eq (pe_c c__law_next hr (by decide) rfl (pa_cons (pv 0) (pa_cons pe_int pa_nil))) pe_int (nomark _)))))
    (pss_one (ps_set (i := 1) sc__law_tall.nd rfl (Or.inl rfl) (pe_tup (pa_cons pe_str (pa_cons (pe_tup (pa_cons (pe_tup (pa_cons (pe_tup (pa_cons pe_int pa_nil)) (pa_cons (pv 1) pa_nil))) pa_nil)) pa_nil)))))
    (pss_one (ps_set (i := 1) sc__law_tall.nd rfl (Or.inl rfl) (pe_tup (pa_cons pe_str (pa_cons (pe_tup (pa_cons (pv 1) pa_nil)) pa_nil)))))))))
    pss_nil)
    (pss_one (ps_ret (pv 1)))), ?_⟩)
  obtain ⟨_, v, _, rfl, S, l, t, rfl, rfl, L, tp, ok, h⟩ := h
  walk_at "rd"
  refine r_cut (fun σ H' => LB K S l H' ∧ Keep S H H' ∧ ∃ (v : V) (t' : Vl) (n : Nat) (y2 : Option V), n ≤ 29 ∧ t'.bf n ∧ vsz t' ≤ vsz t + 60 ∧ Tp H' v t'.dat ∧ σ = [some (.ref S.a), some v, some (.bl true), y2]) ?_ ?_
  · walk_at "rd"
    refine b_next L (by decide) fun r1 H1 a1 b1 L1 k1 => ?_
    have tp := Tp.tk (keep_tk L.ls k1) _ _ tp
    walk_at "rd"
    refine r_ite (fun c => ?_) (fun c => ?_)
    · walk_at "rd"
      refine b_next L1 (by decide) fun r2 H2 a2 b2 L2 k2 => ?_
      have tp := Tp.tk (keep_tk L1.ls k2) _ _ tp
      have k2 := k1.trans k2
      walk_at "rd"
      refine r_turns (by omega) (by omega) (fun i σ H' => LB K S l H' ∧ Keep S H H' ∧ ∃ (v : V) (t' : Vl) (y2 : Option V), i ≤ 25 ∧ t'.bf (4 + i) ∧ vsz t' ≤ vsz t + 2 * i ∧ Tp H' v t'.dat ∧ σ = [some (.ref S.a), some v, some (.bl true), y2]) ⟨L2, k2, v, t, _, Nat.zero_le _, ok, Nat.le_refl _, tp, rfl⟩ ?_ ?_
      · rintro i σ H3 hi ⟨L3, k3, v, t', y2, hi2, ok3, sz3, tp3, rfl⟩
        walk_at "rd"
        refine b_next L3 (by decide) fun r4 H4 a4 b4 L4 k4 => ?_
        have tp4 := Tp.tk (keep_tk L3.ls k4) _ _ tp3
        have k4 := k3.trans k4
        walk_at "rd"
        refine r_ite (fun c => ?_) (fun c => ?_)
        · walk_at "rd"
          refine ⟨by show 1 ≤ sizeLine; decide, fun p5 n5 => ?_⟩
          obtain ⟨H5, e, L5, s5, g5⟩ := new_b (o := .tup [.int 97]) L4 n5
          rw [e]
          clear e
          walk_at "rd"
          refine ⟨by show 2 ≤ sizeLine; decide, fun p6 n6 => ?_⟩
          obtain ⟨H6, e, L6, s6, g6⟩ := new_b (o := .tup [.ref p5, v]) L5 n6
          rw [e]
          clear e
          walk_at "rd"
          refine ⟨by show 1 ≤ sizeLine; decide, fun p7 n7 => ?_⟩
          obtain ⟨H7, e, L7, s7, g7⟩ := new_b (o := .tup [.ref p6]) L6 n7
          rw [e]
          clear e
          walk_at "rd"
          refine ⟨by show 2 ≤ sizeLine; decide, fun p8 n8 => ?_⟩
          obtain ⟨H8, e, L8, s8, g8⟩ := new_b (o := .tup [.str "map", .ref p7]) L7 n8
          rw [e]
          clear e
          walk_at "rd"
          have sa := (s5.trans s6).trans (s7.trans s8)
          have tpv : Tp H8 v t'.dat := Tp.tk (Same.tk sa) _ _ tp4
          refine ⟨L8, k4.trans (Keep.of sa), .ref p8, .mp [([97], t')], _, by omega, ⟨by show 1 ≤ 49; decide, List.pairwise_singleton _ _, fun e he => ?_, ok3, trivial⟩, by show 1 + (1 + vsz t' + 0) ≤ _; omega, .tup g8 (.cons (.str _) (.cons (.tup (s8 _ _ g7) (.cons (.tup ((s7.trans s8) _ _ g6) (.cons (tp_kd ((s6.trans (s7.trans s8)) _ _ g5)) (.cons tpv .nil))) .nil)) .nil)), rfl⟩
          rw [List.mem_singleton.mp he]
          exact ⟨by show 1 ≤ 200; decide, fun p hp => by
            rw [List.mem_singleton.mp hp]
            exact ⟨by decide, by decide, .inl (by decide)⟩⟩
        · walk_at "rd"
          refine ⟨by show 1 ≤ sizeLine; decide, fun p7 n7 => ?_⟩
          obtain ⟨H7, e, L7, s7, g7⟩ := new_b (o := .tup [v]) L4 n7
          rw [e]
          clear e
          walk_at "rd"
          refine ⟨by show 2 ≤ sizeLine; decide, fun p8 n8 => ?_⟩
          obtain ⟨H8, e, L8, s8, g8⟩ := new_b (o := .tup [.str "list", .ref p7]) L7 n8
          rw [e]
          clear e
          walk_at "rd"
          have sa := s7.trans s8
          have tpv : Tp H8 v t'.dat := Tp.tk (Same.tk sa) _ _ tp4
          exact ⟨L8, k4.trans (Keep.of sa), .ref p8, .ls [t'], _, by omega, ⟨by show 1 ≤ 49; decide, ok3, trivial⟩, by show 1 + (vsz t' + 0) ≤ _; omega, .tup g8 (.cons (.str _) (.cons (.tup (s8 _ _ g7) (.cons tpv .nil)) .nil)), rfl⟩
      · rintro σ H3 ⟨L3, k3, v, t', y2, hi2, ok3, sz3, tp3, rfl⟩
        walk_at "rd"
        exact ⟨L3, k3, v, t', _, _, by omega, ok3, by omega, tp3, rfl⟩
    · walk_at "rd"
      exact ⟨L1, k1, v, t, 4, _, by decide, ok, by omega, tp, rfl⟩
  · rintro σ H3 ⟨L3, k3, v, t', n, y2, hn, ok3, sz3, tp3, rfl⟩
    walk_at "rd"
    exact h v t' n _ hn ok3 sz3 tp3 L3 k3
theorem ok__law_mixed (F : FunD K "_law_mixed" "_law_mixed" (defArgs s__law_mixed) (defBody s__law_mixed) (defScope s__law_mixed) [] [] (glAd "_law_mixed" K) fd) (m : mg "_law_mixed" = some (.ref (glAd "_law_mixed" K))) (nb : Nm K mg) (c__law_next : Cal P w K mg base 1 "_law_next" (sp__law_next K) []) : Cal P w K mg base 2 "_law_mixed" (sp__law_mixed K) [] := by
  refine calD F m sc__law_mixed (fun _ _ _ _ _ _ us hl => match us, hl with | [_, _], _ => rfl) len2 (fun cdv A outer s H vs Q E hr h => ⟨_, (pss_cons (ps_set (i := 2) sc__law_mixed.nd rfl (Or.inl rfl) (pe_lstE pa_nil))
    (pss_cons (ps_for PassesOwn.never rfl (pi_tup (pv 1)) (pg_name (i := 3) sc__law_mixed.nd rfl (Or.inl rfl))
    (pss_one (ps_expr (pe_bm PySem.F.plainAttrs_list PySem.F.slot_list_insert PySem.F.type_list_insert mt_insert (pv 2) (pa_cons (pe_c c__law_next hr (by decide) rfl (pa_cons (pv 0) (pa_cons (pe_op op_add (pe_callB call_len_seq (by rfl) nb.len PySem.boot_len (pa_cons (pv 2) pa_nil)) pe_int) pa_nil))) (pa_cons (pv 3) pa_nil))))))
    (pss_one (ps_ret (pv 2))))), ?_⟩)
  obtain ⟨_, _, rfl, S, l, p, xs, rfl, rfl, hp, hl, L, h⟩ := h
  walk_at "rf"
  refine ⟨by show 0 ≤ sizeLine; decide, fun q H1 nq g1 s1 => ?_⟩
  have L1 := L.same s1
  have ne1 := L.ne_free nq
  walk_at "rf"
  refine ⟨p, rfl, ⟨xs, SqT.of (s1 _ _ hp)⟩, ?_⟩
  refine r_eachT (xs := xs) (fun i σ H' => LB K S l H' ∧ Keep S H H' ∧ ∃ (ys : List V) (y3 : Option V), ys.Perm (xs.take i) ∧ H' q = some (.lst ys) ∧ σ = [some (.ref S.a), some (.ref p), some (.ref q), y3]) ⟨L1, Keep.of s1, [], none, by simp, g1, rfl⟩ (fun i σ H' hh => by
    obtain ⟨_, k, _⟩ := hh
    exact SqT.of (keep_tk L.ls k _ _ hp)) ?_ ?_
  · rintro i x σ H2 hx ⟨L2, k2, ys, y3, pm, g2, rfl⟩
    have hi : i < xs.length := (List.getElem?_eq_some_iff.mp hx).1
    have yl : ys.length = i := by rw [pm.length_eq, List.length_take]; omega
    walk_at "rf"
    refine ⟨tyL g2, ?_⟩
    walk_at "rf"
    refine ⟨q, _, rfl, .inl (SqL.of g2), ?_⟩
    walk_at "rf"
    refine b_next L2 (by rw [yl]; omega) fun r H3 a3 b3 L3 k3 => ?_
    have g3 := k3 _ _ ne1 g2
    walk_at "rf"
    rw [yl] at b3
    refine ⟨q, ys, r, x, rfl, rfl, g3, small1000 (by omega), a3, by omega, ?_⟩
    have et : xs.take (i + 1) = xs.take i ++ [x] := by rw [List.take_succ, hx]; rfl
    refine ⟨L.away nq L3 _, keep_away (k2.trans k3) nq, ys.take r.toNat ++ [x] ++ ys.drop r.toNat, _, ?_, upd_same, rfl⟩
    rw [et, List.append_assoc]
    refine (List.perm_middle).trans ?_
    rw [show ys.take r.toNat ++ [].append (ys.drop r.toNat) = ys from List.take_append_drop _ _]
    exact (List.Perm.cons x pm).trans (List.perm_append_singleton x _).symm
  · rintro σ H2 ⟨L2, k2, ys, y3, pm, g2, rfl⟩
    rw [List.take_length] at pm
    walk_at "rf"
    exact h q ys H2 pm nq ne1 g2 L2 k2
end

/-! ### the law's own writing -/


/-- a new list with these numbers, all else kept -/
def Out (H : Hp) (xs : List Int) (Q : VK) : Prop := ∀ (p : Addr) (H' : Hp), H p = none → H' p = some (.lst (xs.map V.int)) → Same H H' → Q (.ref p) H'
def sp__law_ascii (K : Frg) : Sp := sp1 fun a H Q _ => ∃ x : List Nat, a = .str (S x) ∧ x.length ≤ 10000 ∧ Out H (asc x) Q
def sp__law_utf8 (K : Frg) : Sp := sp1 fun a H Q _ => ∃ (p : Addr) (ps : List Int), a = .ref p ∧ H p = some (.tup (ps.map V.int)) ∧ ps.length ≤ 200 ∧ Out H (encs ps) Q
theorem out_new {H : Hp} {xs : List Int} {Q : VK} (h : Out H xs Q) {p : Addr} (hp : H p = none) : Q (.ref p) (upd H p (.lst (xs.map V.int))) := h p _ hp upd_same (same_upd hp _)
theorem Out.same {H H1 : Hp} {xs : List Int} {Q : VK} (h : Out H xs Q) (s : Same H H1) : Out H1 xs Q := fun p H' n g s' => h p H' (s.free n) g (s.trans s')
/-- list + list -/
theorem r_catB {a b : Addr} {xs ys : List Int} {H : Hp} {Q : VK} (h1 : H a = some (.lst (xs.map V.int))) (h2 : H b = some (.lst (ys.map V.int))) (hl : xs.length + ys.length ≤ 16700000) (h : ∀ p H', H p = none → H' p = some (.lst ((xs ++ ys).map V.int)) → Same H H' → Q (.ref p) H') : rCat (.ref a) (.ref b) H Q :=
  ⟨a, b, _, _, rfl, rfl, h1, h2, Nat.le_trans (by rw [List.length_map, List.length_map]; exact hl) (by decide : 16700000 ≤ sizeLine), fun p hp => h p _ hp (by rw [upd_same, cat_ints]) (same_upd hp _)⟩
/-- a list of something for each sign of a text -/
theorem r_lcS {σ : St} {H : Hp} {Q : VK} {k : Nat} {g : TG} {te : TE} {vs : List Nat} {x : Str} (e : σ[k]? = some (some (.str x))) (Pv : Addr → Nat → Hp → Prop) (h0 : ∀ D, H D = none → Pv D 0 (upd H D (.lst [])))
    (hs : ∀ (D : Addr) (i c : Nat) (H' : Hp), H D = none → x.cps[i]? = some c → Pv D i H' → g (.str ⟨#[c]⟩) (wipe σ vs) H' fun σ2 H2 => wipe σ2 vs = wipe σ vs ∧ te σ2 H2 fun y H4 => ∃ acc, H4 D = some (.lst acc) ∧ acc.length < sizeLine ∧ Pv D (i + 1) (upd H4 D (.lst (acc ++ [y]))))
    (hd : ∀ (D : Addr) (H' : Hp), H D = none → Pv D x.cps.size H' → Q (.ref D) H') : tLc (iStr (tVar k)) g tYes te vs σ H Q := by
  refine ⟨_, e, x, rfl, fun D hD => ⟨fun i m H' => m + i = x.cps.size ∧ Pv D i H', ⟨x.cps.size, rfl, h0 D hD⟩, fun i m H' hW => ?_⟩⟩
  obtain ⟨hm, p⟩ := hW
  by_cases c : i < x.cps.size
  · refine .inr ⟨c, fun H' => Pv D (i + 1) H', fun H' q => ⟨m - 1, by omega, by omega, q⟩, ?_⟩
    rintro v _ ⟨rfl, cc, hc, rfl⟩
    exact hs D i cc _ hD hc p
  · have : i = x.cps.size := by omega
    subst this
    exact .inl ⟨Nat.le_refl _, hd D H' hD p⟩
theorem same_but {H H1 H2 : Hp} {q : Addr} (s : Same H H1) (nq : H q = none) (k : ∀ b, b ≠ q → H2 b = H1 b) : Same H H2 := fun b u z => by
  rw [k b (fun e => by rw [e, nq] at z; cases z)]
  exact s b u z
theorem S_at (x : List Nat) (i : Nat) : (S x).cps[i]? = x[i]? := by simp [S]
theorem S_size (x : List Nat) : (S x).cps.size = x.length := by simp [S]
theorem asc_len (x : List Nat) : (asc x).length = x.length := List.length_map ..
theorem small_asc {x : List Nat} (hx : x.length ≤ 10000) (i : Nat) : ((asc (x.take i)).map V.int).length < sizeLine := by
  rw [List.length_map, asc_len]
  exact Nat.lt_of_le_of_lt (Nat.le_trans (List.length_take_le' _ _) hx) (by decide)
theorem new_o {H : Hp} {p : Addr} {o : HO} (hp : H p = none) : ∃ H', upd H p o = H' ∧ Same H H' ∧ H' p = some o := ⟨_, rfl, same_upd hp o, upd_same⟩
def sgn (m : Int) : List Nat := if m < 0 then [45] else []
def sdg (m : Int) : List Nat := sgn m ++ dg m.natAbs
theorem str_sdg : ∀ m : Int, Str.ofString (toString m) = S (sdg m)
  | .ofNat n => by
    have e : sdg (.ofNat n) = dg n := by
      unfold sdg sgn
      have c : ¬ Int.ofNat n < 0 := Int.not_lt.mpr (Int.natCast_nonneg n)
      rw [if_neg c]
      rfl
    rw [e]
    exact str_dg n
  | .negSucc n => by
    have e : sdg (.negSucc n) = [45] ++ dg (n + 1) := by
      unfold sdg sgn
      rw [if_pos (Int.negSucc_lt_zero n)]
      rfl
    rw [e]
    refine (S_tl _).symm.trans (congrArg S ?_)
    rw [PyProof.Rows.signs_ofString]
    show (("-" ++ Nat.repr (n + 1)).toList.map Char.toNat) = _
    rw [String.toList_append, List.map_append, Nat.toList_repr]
    rfl
theorem sdg_len {m : Int} {k : Nat} (h : m.natAbs < 10 ^ k) : (sdg m).length ≤ k + 2 := by
  have a := dg_lenP h
  have b : (sgn m).length ≤ 1 := by
    unfold sgn
    split <;> simp
  unfold sdg
  rw [List.length_append]
  omega
section
variable {P : Program} {w : World} {K : PySem.W.Frag} {mg : Str → Option Value} {base : Heap} {f : Addr} {fd : FuncData}
theorem ok__law_ascii (F : FunD K "_law_ascii" "_law_ascii" (defArgs s__law_ascii) (defBody s__law_ascii) (defScope s__law_ascii) [] [] (glAd "_law_ascii" K) fd) (m : mg "_law_ascii" = some (.ref (glAd "_law_ascii" K))) (nb : Nm K mg) : Cal P w K mg base 1 "_law_ascii" (sp__law_ascii K) [] := by
  refine calD F m sc__law_ascii (fun _ _ _ _ _ _ us hl => match us, hl with | [_], _ => rfl) len1 (fun cdv A outer s H vs Q E hr h => ⟨_, (pss_one (ps_ret (pe_lc (own := [("char", 1)]) (g := gName 1) (tt := tYes) rfl sc__law_ascii.nd (pi_str (pv 0)) (blkOk_by (N := ["text", "char"]) (sc := defScope s__law_ascii) (by decide +kernel)) (fun _ _ _ _ _ => pg_name (i := 1) sc__law_ascii.nd rfl (Or.inl rfl)) (fun _ _ _ _ _ => pts_nil) (fun _ _ _ _ _ => (pe_callB call_ord (by rfl) nb.ord (by decide +kernel) (pa_cons (pv 1) pa_nil)))))), ?_⟩)
  obtain ⟨_, rfl, x, rfl, hx, h⟩ := h
  walk_at "rd"
  refine r_lcS (x := S x) rfl (fun D i H' => H' D = some (.lst ((asc (x.take i)).map V.int)) ∧ ∀ b u, b ≠ D → H b = some u → H' b = some u) (fun D hD => ⟨upd_same, fun b u n z => (upd_ne n).trans z⟩) ?_ ?_
  · rintro D i c H' hD hc ⟨g1, g2⟩
    walk_at "rd"
    refine ⟨rfl, ?_⟩
    walk_at "rd"
    have hx2 : x[i]? = some c := by
      have := hc
      rw [S_at] at this
      exact this
    refine ⟨_, rfl, rfl, _, g1, small_asc hx i, ?_, fun b u n z => (upd_ne n).trans (g2 b u n z)⟩
    rw [upd_same, List.take_succ, hx2]
    unfold asc
    rw [List.map_append, List.map_append]
    rfl
  · rintro D H' hD ⟨g1, g2⟩
    have e : x.take (S x).cps.size = x := List.take_of_length_le (Nat.le_of_eq (S_size x).symm)
    rw [e] at g1
    exact h D H' hD g1 fun b u z => g2 b u (fun e => by rw [e, hD] at z; cases z) z
theorem ok__law_utf8 (F : FunD K "_law_utf8" "_law_utf8" (defArgs s__law_utf8) (defBody s__law_utf8) (defScope s__law_utf8) [] [] (glAd "_law_utf8" K) fd) (m : mg "_law_utf8" = some (.ref (glAd "_law_utf8" K))) (nb : Nm K mg) : Cal P w K mg base 1 "_law_utf8" (sp__law_utf8 K) [] := by
  refine calD F m sc__law_utf8 (fun _ _ _ _ _ _ us hl => match us, hl with | [_], _ => rfl) len1 (fun cdv A outer s H vs Q E hr h => ⟨_, (pss_cons (ps_set (i := 1) sc__law_utf8.nd rfl (Or.inl rfl) (pe_lst pa_nil))
    (pss_cons (ps_for PassesOwn.never rfl (pi_tup (pv 0)) (pg_name (i := 2) sc__law_utf8.nd rfl (Or.inl rfl))
    (pss_one (ps_if (pt_cmpR op_lt (pv 2) pe_int (nomark _))
    (pss_one (ps_expr (pe_bm PySem.F.plainAttrs_list PySem.F.slot_list_append PySem.F.type_list_append mt_append (pv 1) (pa_cons (pv 2) pa_nil))))
    (pss_one (ps_if (pt_cmpR op_lt (pv 2) pe_int (nomark _))
    (pss_one (ps_set (i := 1) sc__law_utf8.nd rfl (Or.inl rfl) (pe_op op_cat (pv 1) (pe_lst (pa_cons (pe_op op_add pe_int (pe_op op_fdiv (pv 2) pe_int)) (pa_cons (pe_op op_add pe_int (pe_op op_mod (pe_callTy call_int1 (by rfl) nb.int (by decide +kernel) (pa_cons (pv 2) pa_nil)) pe_int)) pa_nil))))))
    (pss_one (ps_if (pt_cmpR op_lt (pv 2) pe_int (nomark _))
    (pss_one (ps_set (i := 1) sc__law_utf8.nd rfl (Or.inl rfl) (pe_op op_cat (pv 1) (pe_lst (pa_cons (pe_op op_add pe_int (pe_op op_fdiv (pv 2) pe_int)) (pa_cons (pe_op op_add pe_int (pe_op op_mod (pe_callTy call_int1 (by rfl) nb.int (by decide +kernel) (pa_cons (pe_op op_fdiv (pv 2) pe_int) pa_nil)) pe_int)) (pa_cons (pe_op op_add pe_int (pe_op op_mod (pe_callTy call_int1 (by rfl) nb.int (by decide +kernel) (pa_cons (pv 2) pa_nil)) pe_int)) pa_nil)))))))
    (pss_one (ps_set (i := 1) sc__law_utf8.nd rfl (Or.inl rfl) (pe_op op_cat (pv 1) (pe_lst (pa_cons (pe_op op_add pe_int (pe_op op_fdiv (pv 2) pe_int)) (pa_cons (pe_op op_add pe_int (pe_op op_mod (pe_callTy call_int1 (by rfl) nb.int (by decide +kernel) (pa_cons (pe_op op_fdiv (pv 2) pe_int) pa_nil)) pe_int)) (pa_cons (pe_op op_add pe_int (pe_op op_mod (pe_callTy call_int1 (by rfl) nb.int (by decide +kernel) (pa_cons (pe_op op_fdiv (pv 2) pe_int) pa_nil)) pe_int)) (pa_cons (pe_op op_add pe_int (pe_op op_mod (pe_callTy call_int1 (by rfl) nb.int (by decide +kernel) (pa_cons (pv 2) pa_nil)) pe_int)) pa_nil)))))))))))))))
    (pss_one (ps_ret (pv 1))))), ?_⟩)
  obtain ⟨_, rfl, a, ps, rfl, ha, hp, h⟩ := h
  walk_at "rd"
  refine ⟨Nat.zero_le _, fun q nq => ?_⟩
  obtain ⟨H1, e, s1, g1⟩ := new_o (o := .lst []) nq
  rw [e]
  clear e
  walk_at "rd"
  refine ⟨a, rfl, ⟨_, SqT.of (s1 _ _ ha)⟩, ?_⟩
  refine r_eachT (xs := ps.map V.int) (fun i σ H' => Same H H' ∧ ∃ (q : Addr) (y : Option V), H q = none ∧ H' q = some (.lst ((encs (ps.take i)).map V.int)) ∧ σ = [some (.ref a), some (.ref q), y]) ⟨s1, q, none, nq, g1, rfl⟩ (fun i σ H' p => SqT.of (p.1 _ _ ha)) ?_ ?_
  · rintro i x σ H2 hx ⟨s2, q, y, nq, g2, rfl⟩
    obtain ⟨c, hc, rfl, et⟩ := ints_get hx
    have hi : i < ps.length := (List.getElem?_eq_some_iff.mp hc).1
    have hl : (encs (ps.take i)).length ≤ 800 := by
      have h1 := len_encs (ps.take i)
      have h2 : (ps.take i).length ≤ ps.length := List.length_take_le' _ _
      have h3 := hp
      omega
    have step : ∀ r : List Int, enc1 c = r → ∀ (q2 : Addr) (H3 : Hp), H2 q2 = none → H3 q2 = some (.lst ((encs (ps.take i) ++ r).map V.int)) → Same H2 H3 → Same H H3 ∧ ∃ (q : Addr) (y : Option V), H q = none ∧ H3 q = some (.lst ((encs (ps.take (i + 1))).map V.int)) ∧ [some (V.ref a), some (.ref q2), some (.int c)] = [some (.ref a), some (.ref q), y] := fun r er q2 H3 n2 g3 s3 => ⟨s2.trans s3, q2, _, s2.free n2, by rw [g3, et]; rw [encs_snoc, er], rfl⟩
    walk_at "rd"
    refine r_ite (fun c1 => ?_) (fun c1 => ?_)
    · walk_at "rd"
      refine ⟨tyL g2, ?_⟩
      walk_at "rd"
      refine r_appK g2 (small4k (by rw [List.length_map]; omega)) fun H5 hL5 f5 => ?_
      refine ⟨same_but s2 nq f5, q, _, nq, ?_, rfl⟩
      rw [hL5, map_snoc, et]
      rw [encs_snoc, enc_low c1]
    walk_at "rd"
    refine r_ite (fun c2 => ?_) (fun c2 => ?_)
    · have er : enc1 c = [192 + c / 64, 128 + c % 64] := (if_neg c1).trans (if_pos c2)
      walk_at "rd"
      refine ⟨by show 2 ≤ sizeLine; decide, fun q2 n2 => ?_⟩
      obtain ⟨H3, e, s3, g3⟩ := new_o (o := .lst ([192 + c / 64, 128 + c % 64].map V.int)) n2
      rw [show (HO.lst [V.int (192 + c / 64), V.int (128 + c % 64)]) = .lst ([192 + c / 64, 128 + c % 64].map V.int) from rfl, e]
      clear e
      walk_at "rd"
      refine r_catB (s3 _ _ g2) g3 (by show _ + 2 ≤ _; omega) fun p3 H4 n4 g4 s4 => ?_
      exact step _ er p3 H4 (s3.free n4) g4 (s3.trans s4)
    walk_at "rd"
    refine r_ite (fun c3 => ?_) (fun c3 => ?_)
    · have er : enc1 c = [224 + c / 4096, 128 + c / 64 % 64, 128 + c % 64] := (if_neg c1).trans ((if_neg c2).trans (if_pos c3))
      walk_at "rd"
      refine ⟨by show 3 ≤ sizeLine; decide, fun q2 n2 => ?_⟩
      obtain ⟨H3, e, s3, g3⟩ := new_o (o := .lst ([224 + c / 4096, 128 + c / 64 % 64, 128 + c % 64].map V.int)) n2
      rw [show (HO.lst [V.int (224 + c / 4096), V.int (128 + c / 64 % 64), V.int (128 + c % 64)]) = .lst ([224 + c / 4096, 128 + c / 64 % 64, 128 + c % 64].map V.int) from rfl, e]
      clear e
      walk_at "rd"
      refine r_catB (s3 _ _ g2) g3 (by show _ + 3 ≤ _; omega) fun p3 H4 n4 g4 s4 => ?_
      exact step _ er p3 H4 (s3.free n4) g4 (s3.trans s4)
    · have er : enc1 c = [240 + c / 262144, 128 + c / 4096 % 64, 128 + c / 64 % 64, 128 + c % 64] := (if_neg c1).trans ((if_neg c2).trans (if_neg c3))
      walk_at "rd"
      refine ⟨by show 4 ≤ sizeLine; decide, fun q2 n2 => ?_⟩
      obtain ⟨H3, e, s3, g3⟩ := new_o (o := .lst ([240 + c / 262144, 128 + c / 4096 % 64, 128 + c / 64 % 64, 128 + c % 64].map V.int)) n2
      rw [show (HO.lst [V.int (240 + c / 262144), V.int (128 + c / 4096 % 64), V.int (128 + c / 64 % 64), V.int (128 + c % 64)]) = .lst ([240 + c / 262144, 128 + c / 4096 % 64, 128 + c / 64 % 64, 128 + c % 64].map V.int) from rfl, e]
      clear e
      walk_at "rd"
      refine r_catB (s3 _ _ g2) g3 (by show _ + 4 ≤ _; omega) fun p3 H4 n4 g4 s4 => ?_
      exact step _ er p3 H4 (s3.free n4) g4 (s3.trans s4)
  · rintro σ H2 ⟨s2, q, y, nq, g2, rfl⟩
    rw [List.length_map, List.take_length] at g2
    walk_at "rd"
    exact h q H2 nq g2 s2
end

/-- data of tuples, none of them too long -/
def Short : PyData → Prop
  | .bool _ => True
  | .int _ => True
  | .str x => PyData.canLay0 (.str x) = true
  | .tuple ds => ds.length ≤ 16777000 ∧ shortAll ds
  | _ => False
where shortAll : List PyData → Prop
  | [] => True
  | d :: ds => Short d ∧ shortAll ds
theorem short_mem : ∀ {ds : List PyData} {i : Nat} {e : PyData}, Short.shortAll ds → ds[i]? = some e → Short e
  | [], _, _, _, h => by simp at h
  | d :: ds, 0, e, hs, h => by
    cases (show some d = some e from h)
    exact hs.1
  | d :: ds, i + 1, e, hs, h => short_mem (ds := ds) (i := i) hs.2 (by simpa using h)
theorem short_ints : ∀ k : List Int, Short.shortAll (k.map PyData.int)
  | [] => trivial
  | _ :: k => ⟨trivial, short_ints k⟩
theorem sh_kd {k : List Int} (h : k.length ≤ 16777000) : Short (kd k) := ⟨by rw [List.length_map]; exact h, short_ints k⟩

theorem vszM_perm {es es' : List (List Int × Vl)} (p : es'.Perm es) : vszM es' = vszM es := by
  rw [vszM_sum, vszM_sum, p.length_eq]
  have : (es'.map fun e => vsz e.2).sum = (es.map fun e => vsz e.2).sum := (p.map _).sum_nat
  rw [this]
theorem vszL_take : ∀ (xs : List Vl) (i : Nat), vszL (xs.take i) ≤ vszL xs
  | [], i => by simp [vszL]
  | x :: xs, 0 => Nat.zero_le _
  | x :: xs, i + 1 => by
    have := vszL_take xs i
    show vsz x + vszL (xs.take i) ≤ vsz x + vszL xs
    omega
theorem vszL_mem : ∀ {xs : List Vl} {x : Vl}, x ∈ xs → vsz x ≤ vszL xs
  | y :: xs, x, h => by
    rcases List.mem_cons.mp h with e | h
    · rw [e]
      show _ ≤ vsz y + vszL xs
      omega
    · have := vszL_mem h
      show _ ≤ vsz y + vszL xs
      omega
theorem vszM_take : ∀ (xs : List (List Int × Vl)) (i : Nat), vszM (xs.take i) ≤ vszM xs
  | [], i => by simp [vszM]
  | (k, x) :: xs, 0 => Nat.zero_le _
  | (k, x) :: xs, i + 1 => by
    have := vszM_take xs i
    show 1 + vsz x + vszM (xs.take i) ≤ 1 + vsz x + vszM xs
    omega
theorem vszM_mem : ∀ {xs : List (List Int × Vl)} {x : List Int × Vl}, x ∈ xs → vsz x.2 ≤ vszM xs
  | (k, y) :: xs, x, h => by
    rcases List.mem_cons.mp h with e | h
    · rw [e]
      show vsz y ≤ 1 + vsz y + vszM xs
      omega
    · have := vszM_mem h
      show _ ≤ 1 + vsz y + vszM xs
      omega
theorem take_mem' {α : Type} {l : List α} {i : Nat} {e : α} (h : e ∈ l.take i) : e ∈ l := List.mem_of_mem_take h

/-! ### the law's comparison of data -/

/-- v is this data, read so deep at most -/
def Ld : Nat → Hp → V → PyData → Prop
  | 0, _, _, _ => False
  | n + 1, H, v, d => match d with
    | .bool b => v = .bl b
    | .int i => v = .int i
    | .str x => v = .str x ∧ PyData.canLay0 (.str x) = true
    | .tuple ds => ∃ a xs, v = .ref a ∧ H a = some (.tup xs) ∧ xs.length = ds.length ∧ xs.length ≤ 16777000 ∧ ∀ (i : Nat) x e, xs[i]? = some x → ds[i]? = some e → Ld n H x e
    | .list ds => ∃ a xs, v = .ref a ∧ H a = some (.lst xs) ∧ xs.length = ds.length ∧ xs.length ≤ 16777000 ∧ ∀ (i : Nat) x e, xs[i]? = some x → ds[i]? = some e → Ld n H x e
    | _ => False
theorem Ld.same {H H' : Hp} (s : Same H H') : ∀ {n : Nat} {v : V} {d : PyData}, Ld n H v d → Ld n H' v d
  | 0, _, _, h => h.elim
  | n + 1, v, d, h => by
    cases d with
    | bool b => exact h
    | int i => exact h
    | str x => exact h
    | tuple ds =>
      obtain ⟨a, xs, e, h1, h2, h3, h4⟩ := h
      exact ⟨a, xs, e, s _ _ h1, h2, h3, fun i x e a b => Ld.same s (h4 i x e a b)⟩
    | list ds =>
      obtain ⟨a, xs, e, h1, h2, h3, h4⟩ := h
      exact ⟨a, xs, e, s _ _ h1, h2, h3, fun i x e a b => Ld.same s (h4 i x e a b)⟩
    | _ => exact h.elim
theorem depthAll_mem : ∀ {ds : List PyData} {i : Nat} {e : PyData}, ds[i]? = some e → e.depth ≤ PyData.depthAll ds
  | [], _, _, h => by simp at h
  | d :: ds, 0, e, h => by
    cases (show some d = some e from h)
    show _ ≤ max d.depth (PyData.depthAll ds)
    exact Nat.le_max_left _ _
  | d :: ds, i + 1, e, h => by
    have := depthAll_mem (ds := ds) (i := i) (by simpa using h)
    show _ ≤ max d.depth (PyData.depthAll ds)
    exact Nat.le_trans this (Nat.le_max_right _ _)
theorem tp_ld : ∀ {n : Nat} {H : Hp} {v : V} {d : PyData}, Tp H v d → Short d → d.depth < n → Ld n H v d
  | 0, _, _, _, _, _, h => absurd h (Nat.not_lt_zero _)
  | n + 1, H, v, d, h, hs, hd => by
    cases h with
    | non => exact hs.elim
    | bl b => rfl
    | int i => rfl
    | str x => exact ⟨rfl, hs⟩
    | tup ha hx =>
      rename_i a xs ds
      have hs : ds.length ≤ 16777000 ∧ Short.shortAll ds := hs
      have hd : PyData.depthAll ds + 1 < n + 1 := hd
      refine ⟨a, xs, rfl, ha, tpAll_len hx, by rw [tpAll_len hx]; exact hs.1, fun i x e h1 h2 => ?_⟩
      obtain ⟨e', h3, h4⟩ := tpAll_get hx h1
      rw [h2] at h3
      cases h3
      exact tp_ld h4 (short_mem hs.2 h2) (by have := depthAll_mem h2; omega)
def sp__law_same (K : Frg) (n : Nat) : Sp := sp2 fun a b H Q _ => ∃ d, Ld n H a d ∧ Ld n H b d ∧ ∀ H', Same H H' → Q (.bl true) H'
theorem no__law_same {K : Frg} {vs : List V} {H : Hp} {Q : VK} {E : XK} (h : sp__law_same K 0 vs H Q E) : False := by
  obtain ⟨_, _, rfl, d, h, _⟩ := h
  exact h
section
variable {P : Program} {w : World} {K : PySem.W.Frag} {mg : Str → Option Value} {base : Heap} {f : Addr} {fd : FuncData}
theorem ok__law_same (n : Nat) (F : FunD K "_law_same" "_law_same" (defArgs s__law_same) (defBody s__law_same) (defScope s__law_same) [] [] (glAd "_law_same" K) fd) (m : mg "_law_same" = some (.ref (glAd "_law_same" K))) (nb : Nm K mg) (c__law_same : Cal P w K mg base (1 + n) "_law_same" (sp__law_same K n) []) : Cal P w K mg base (1 + n + 1) "_law_same" (sp__law_same K (n + 1)) [] := by
  refine calD F m sc__law_same (fun _ _ _ _ _ _ us hl => match us, hl with | [_, _], _ => rfl) len2 (fun cdv A outer s H vs Q E hr h => ⟨_, (pss_cons (ps_if (PW.pt (pw_or (pt_val (pe_callB call_isi (by rfl) nb.isinstance (by decide +kernel) (pa_cons (pv 1) (pa_cons (pe_bltn (v := .ty "tuple") (u := .type "tuple") (by rfl) nb.tuple (by decide +kernel) rfl) pa_nil)))) (pw_or1 (pt_val (pe_callB call_isi (by rfl) nb.isinstance (by decide +kernel) (pa_cons (pv 1) (pa_cons (pe_bltn (v := .ty "list") (u := .type "list") (by rfl) nb.list (by decide +kernel) rfl) pa_nil)))))))
    (pss_cons (ps_if (PW.pt (pw_or (pt_cmpR op_ne (pe_callB call_isi (by rfl) nb.isinstance (by decide +kernel) (pa_cons (pv 0) (pa_cons (pe_bltn (v := .ty "tuple") (u := .type "tuple") (by rfl) nb.tuple (by decide +kernel) rfl) pa_nil))) (pe_callB call_isi (by rfl) nb.isinstance (by decide +kernel) (pa_cons (pv 1) (pa_cons (pe_bltn (v := .ty "tuple") (u := .type "tuple") (by rfl) nb.tuple (by decide +kernel) rfl) pa_nil))) (nomark _)) (pw_or1 (pt_cmpR op_ne (pe_callB call_isi (by rfl) nb.isinstance (by decide +kernel) (pa_cons (pv 0) (pa_cons (pe_bltn (v := .ty "list") (u := .type "list") (by rfl) nb.list (by decide +kernel) rfl) pa_nil))) (pe_callB call_isi (by rfl) nb.isinstance (by decide +kernel) (pa_cons (pv 1) (pa_cons (pe_bltn (v := .ty "list") (u := .type "list") (by rfl) nb.list (by decide +kernel) rfl) pa_nil))) (nomark _)))))
    (pss_one (ps_ret pe_bl))
    pss_nil)
    (pss_cons (ps_if (pt_cmpR op_ne (pe_callB call_len_seq (by rfl) nb.len PySem.boot_len (pa_cons (pv 0) pa_nil)) (pe_callB call_len_seq (by rfl) nb.len PySem.boot_len (pa_cons (pv 1) pa_nil)) (nomark _))
    (pss_one (ps_ret pe_bl))
    pss_nil)
    (pss_cons (ps_for PassesOwn.never rfl (pi_range1 rfl nb.range (pa_cons (pe_callB call_len_seq (by rfl) nb.len PySem.boot_len (pa_cons (pv 1) pa_nil)) pa_nil)) (pg_name (i := 2) sc__law_same.nd rfl (Or.inl rfl))
    (pss_one (ps_if (pt_not (pt_val (pe_c c__law_same hr (by omega) rfl (pa_cons (pe_ix ix_seq (pv 0) (pv 2) (fun _ _ => rfl)) (pa_cons (pe_ix ix_seq (pv 1) (pv 2) (fun _ _ => rfl)) pa_nil)))))
    (pss_one (ps_ret pe_bl))
    pss_nil)))
    (pss_one (ps_ret pe_bl)))))
    pss_nil)
    (pss_cons (ps_if (PW.pt (pw_or (pt_val (pe_callB call_isi (by rfl) nb.isinstance (by decide +kernel) (pa_cons (pv 0) (pa_cons (pe_bltn (v := .ty "bool") (u := .type "bool") (by rfl) nb.bool (by decide +kernel) rfl) pa_nil)))) (pw_or1 (pt_val (pe_callB call_isi (by rfl) nb.isinstance (by decide +kernel) (pa_cons (pv 1) (pa_cons (pe_bltn (v := .ty "bool") (u := .type "bool") (by rfl) nb.bool (by decide +kernel) rfl) pa_nil)))))))
    (pss_one (ps_ret (pe_and (pe_callB call_isi (by rfl) nb.isinstance (by decide +kernel) (pa_cons (pv 0) (pa_cons (pe_bltn (v := .ty "bool") (u := .type "bool") (by rfl) nb.bool (by decide +kernel) rfl) pa_nil))) (pe_and (pe_callB call_isi (by rfl) nb.isinstance (by decide +kernel) (pa_cons (pv 1) (pa_cons (pe_bltn (v := .ty "bool") (u := .type "bool") (by rfl) nb.bool (by decide +kernel) rfl) pa_nil))) (pe_one (pe_cmpR (op_eqD hr.units) (pv 0) (pv 1) (nomark _)))))))
    pss_nil)
    (pss_cons (ps_if (pt_val (pe_callB call_isi (by rfl) nb.isinstance (by decide +kernel) (pa_cons (pv 1) (pa_cons (pe_bltn (v := .ty "str") (u := .type "str") (by rfl) nb.str (by decide +kernel) rfl) pa_nil))))
    (pss_one (ps_ret (pe_and (pe_callB call_isi (by rfl) nb.isinstance (by decide +kernel) (pa_cons (pv 0) (pa_cons (pe_bltn (v := .ty "str") (u := .type "str") (by rfl) nb.str (by decide +kernel) rfl) pa_nil))) (pe_one (pe_cmpR (op_eqD hr.units) (pv 0) (pv 1) (nomark _))))))
    pss_nil)
    (pss_one (ps_ret (pe_and (pe_callB call_isi (by rfl) nb.isinstance (by decide +kernel) (pa_cons (pv 0) (pa_cons (pe_bltn (v := .ty "int") (u := .type "int") (by rfl) nb.int (by decide +kernel) rfl) pa_nil))) (pe_one (pe_cmpR (op_eqD hr.units) (pv 0) (pv 1) (nomark _))))))))), ?_⟩)
  obtain ⟨a, b, rfl, d, ha, hb, hQ⟩ := h
  cases d with
  | bool x =>
    have ha : a = .bl x := ha
    have hb : b = .bl x := hb
    subst ha hb
    walk_at "rf"
    refine r_isi (b := false) (.base (.bl x)) (by decide +kernel) ?_
    walk_at "rf"
    refine r_isi (b := false) (.base (.bl x)) (by decide +kernel) ?_
    walk_at "rf"
    refine r_isi (b := true) (.base (.bl x)) (by decide +kernel) ?_
    walk_at "rf"
    refine r_isi (b := true) (.base (.bl x)) (by decide +kernel) ?_
    walk_at "rf"
    refine r_isi (b := true) (.base (.bl x)) (by decide +kernel) ?_
    walk_at "rf"
    refine r_eqDs (d := .bool x) (.bl x) (.bl x) (by cases x <;> rfl) ?_
    exact hQ H (Same.refl H)
  | int x =>
    have ha : a = .int x := ha
    have hb : b = .int x := hb
    subst ha hb
    walk_at "rf"
    refine r_isi (b := false) (.base (.int x)) (by decide +kernel) ?_
    walk_at "rf"
    refine r_isi (b := false) (.base (.int x)) (by decide +kernel) ?_
    walk_at "rf"
    refine r_isi (b := false) (.base (.int x)) (by decide +kernel) ?_
    walk_at "rf"
    refine r_isi (b := false) (.base (.int x)) (by decide +kernel) ?_
    walk_at "rf"
    refine r_isi (b := false) (.base (.int x)) (by decide +kernel) ?_
    walk_at "rf"
    refine r_isi (b := true) (.base (.int x)) (by decide +kernel) ?_
    walk_at "rf"
    refine r_eqDs (d := .int x) (.int x) (.int x) (by rfl) ?_
    exact hQ H (Same.refl H)
  | str x =>
    obtain ⟨ha, hx⟩ : a = .str x ∧ _ := ha
    have hb : b = .str x := hb.1
    subst ha hb
    walk_at "rf"
    refine r_isi (b := false) (.base (.str x)) (by decide +kernel) ?_
    walk_at "rf"
    refine r_isi (b := false) (.base (.str x)) (by decide +kernel) ?_
    walk_at "rf"
    refine r_isi (b := false) (.base (.str x)) (by decide +kernel) ?_
    walk_at "rf"
    refine r_isi (b := false) (.base (.str x)) (by decide +kernel) ?_
    walk_at "rf"
    refine r_isi (b := true) (.base (.str x)) (by decide +kernel) ?_
    walk_at "rf"
    refine r_isi (b := true) (.base (.str x)) (by decide +kernel) ?_
    walk_at "rf"
    refine r_eqDs (d := .str x) (.str x) (.str x) (by unfold SeqAt.shaped; rw [hx]; rfl) ?_
    exact hQ H (Same.refl H)
  | tuple ds =>
    obtain ⟨p, xs, rfl, hp, lp, sp, ep⟩ := ha
    obtain ⟨q, ys, rfl, hq, lq, sq, eq⟩ := hb
    walk_at "rf"
    refine r_isi (b := true) (.base (.tup hq)) (by decide +kernel) ?_
    walk_at "rf"
    refine r_isi (b := true) (.base (.tup hp)) (by decide +kernel) ?_
    walk_at "rf"
    refine r_isi (b := true) (.base (.tup hq)) (by decide +kernel) ?_
    walk_at "rf"
    refine r_neB ?_
    walk_at "rf"
    refine r_no (show (true : Bool) = true from rfl) ?_
    walk_at "rf"
    refine r_isi (b := false) (.base (.tup hp)) (by decide +kernel) ?_
    walk_at "rf"
    refine r_isi (b := false) (.base (.tup hq)) (by decide +kernel) ?_
    walk_at "rf"
    refine r_neB ?_
    walk_at "rf"
    refine r_no (show (false : Bool) = false from rfl) ?_
    walk_at "rf"
    refine ⟨p, _, rfl, .inr (SqT.of hp), ?_⟩
    walk_at "rf"
    refine ⟨q, _, rfl, .inr (SqT.of hq), ?_⟩
    walk_at "rf"
    refine r_no (by omega) ?_
    walk_at "rf"
    refine ⟨q, _, rfl, .inr (SqT.of hq), ?_⟩
    walk_at "rf"
    refine r_turns (by omega) (by omega) (fun i σ H' => Same H H' ∧ ∃ y : Option V, σ = [some (.ref p), some (.ref q), y]) ⟨Same.refl H, none, rfl⟩ ?_ ?_
    · rintro i σ H2 hi ⟨s2, y, rfl⟩
      have hi1 : i < xs.length := by omega
      have hi2 : i < ys.length := by omega
      have hi3 : i < ds.length := by omega
      walk_at "rf"
      refine .inr (.inl (r_ixT (SqT.of (s2 _ _ hp)) (atI_nat (List.getElem?_eq_getElem hi1)) ?_))
      walk_at "rf"
      refine .inr (.inl (r_ixT (SqT.of (s2 _ _ hq)) (atI_nat (List.getElem?_eq_getElem hi2)) ?_))
      walk_at "rf"
      refine ⟨_, _, rfl, ds[i], (ep i _ _ (List.getElem?_eq_getElem hi1) (List.getElem?_eq_getElem hi3)).same s2, (eq i _ _ (List.getElem?_eq_getElem hi2) (List.getElem?_eq_getElem hi3)).same s2, fun H3 s3 => ⟨true, rfl, ?_⟩⟩
      walk_at "rf"
      exact ⟨s2.trans s3, _, rfl⟩
    · rintro σ H2 ⟨s2, y, rfl⟩
      walk_at "rf"
      exact hQ H2 s2
  | list ds =>
    obtain ⟨p, xs, rfl, hp, lp, sp, ep⟩ := ha
    obtain ⟨q, ys, rfl, hq, lq, sq, eq⟩ := hb
    walk_at "rf"
    refine r_isi (b := false) (.base (.lst hq)) (by decide +kernel) ?_
    walk_at "rf"
    refine r_isi (b := true) (.base (.lst hq)) (by decide +kernel) ?_
    walk_at "rf"
    refine r_isi (b := false) (.base (.lst hp)) (by decide +kernel) ?_
    walk_at "rf"
    refine r_isi (b := false) (.base (.lst hq)) (by decide +kernel) ?_
    walk_at "rf"
    refine r_neB ?_
    walk_at "rf"
    refine r_no (show (false : Bool) = false from rfl) ?_
    walk_at "rf"
    refine r_isi (b := true) (.base (.lst hp)) (by decide +kernel) ?_
    walk_at "rf"
    refine r_isi (b := true) (.base (.lst hq)) (by decide +kernel) ?_
    walk_at "rf"
    refine r_neB ?_
    walk_at "rf"
    refine r_no (show (true : Bool) = true from rfl) ?_
    walk_at "rf"
    refine ⟨p, _, rfl, .inl (SqL.of hp), ?_⟩
    walk_at "rf"
    refine ⟨q, _, rfl, .inl (SqL.of hq), ?_⟩
    walk_at "rf"
    refine r_no (by omega) ?_
    walk_at "rf"
    refine ⟨q, _, rfl, .inl (SqL.of hq), ?_⟩
    walk_at "rf"
    refine r_turns (by omega) (by omega) (fun i σ H' => Same H H' ∧ ∃ y : Option V, σ = [some (.ref p), some (.ref q), y]) ⟨Same.refl H, none, rfl⟩ ?_ ?_
    · rintro i σ H2 hi ⟨s2, y, rfl⟩
      have hi1 : i < xs.length := by omega
      have hi2 : i < ys.length := by omega
      have hi3 : i < ds.length := by omega
      walk_at "rf"
      refine .inl (r_ixL (SqL.of (s2 _ _ hp)) (atI_nat (List.getElem?_eq_getElem hi1)) ?_)
      walk_at "rf"
      refine .inl (r_ixL (SqL.of (s2 _ _ hq)) (atI_nat (List.getElem?_eq_getElem hi2)) ?_)
      walk_at "rf"
      refine ⟨_, _, rfl, ds[i], (ep i _ _ (List.getElem?_eq_getElem hi1) (List.getElem?_eq_getElem hi3)).same s2, (eq i _ _ (List.getElem?_eq_getElem hi2) (List.getElem?_eq_getElem hi3)).same s2, fun H3 s3 => ⟨true, rfl, ?_⟩⟩
      walk_at "rf"
      exact ⟨s2.trans s3, _, rfl⟩
    · rintro σ H2 ⟨s2, y, rfl⟩
      walk_at "rf"
      exact hQ H2 s2
  | _ => exact ha.elim
theorem rec__law_same (F : FunD K "_law_same" "_law_same" (defArgs s__law_same) (defBody s__law_same) (defScope s__law_same) [] [] (glAd "_law_same" K) fd) (m : mg "_law_same" = some (.ref (glAd "_law_same" K))) (nb : Nm K mg) : ∀ n, Cal P w K mg base (1 + n) "_law_same" (sp__law_same K n) []
  | 0 => calD (k := 0) F m sc__law_same (fun _ _ _ _ _ _ us hl => match us, hl with | [_, _], _ => rfl) (fun _ _ _ _ h => (no__law_same h).elim) (fun _ _ _ _ _ _ _ _ _ h => (no__law_same h).elim)
  | n + 1 => ok__law_same n F m nb (rec__law_same F m nb n)
end

theorem Oct.sub {xs ys : List Int} (h : Oct xs) (m : ∀ y ∈ ys, y ∈ xs) : Oct ys := fun y hy => h y (m y hy)
theorem Oct.app {xs ys : List Int} (h : Oct xs) (g : Oct ys) : Oct (xs ++ ys) := fun y hy => (List.mem_append.mp hy).elim (h y) (g y)
/-! ### all that the law writes of a value lies from 0 to 255; its values are values of short parts -/
abbrev sOf (x : List Nat) : Str := S x
def Ch8 (x : List Nat) : Prop := ∀ c ∈ x, c ≤ 255
theorem Ch8.app {x y : List Nat} (a : Ch8 x) (b : Ch8 y) : Ch8 (x ++ y) := fun c hc => (List.mem_append.mp hc).elim (a c) (b c)
theorem ch8_dg (n : Nat) : Ch8 (dg n) := fun c hc => by
  have := dg_all n c hc
  omega
theorem ch8_rep {c : Nat} (n : Nat) (h : c ≤ 255) : Ch8 (List.replicate n c) := fun d hd => by
  rw [List.eq_of_mem_replicate hd]
  exact h
theorem ch8_one {c : Nat} (h : c ≤ 255) : Ch8 [c] := fun d hd => by
  rw [List.mem_singleton.mp hd]
  exact h
theorem ch8_sdg (m : Int) : Ch8 (sdg m) := by
  unfold sdg sgn
  refine Ch8.app ?_ (ch8_dg _)
  split
  · exact ch8_one (by decide)
  · exact fun c hc => absurd hc (by simp)
theorem asc_oct {x : List Nat} (h : Ch8 x) : Oct (asc x) := fun c hc => by
  unfold asc at hc
  obtain ⟨d, hd, rfl⟩ := List.mem_map.mp hc
  have := h d hd
  exact ⟨Int.natCast_nonneg d, by show (d : Int) ≤ 255; omega⟩
theorem oct_one {o : Int} (h0 : 0 ≤ o) (h1 : o ≤ 255) : Oct [o] := fun c hc => by
  rw [List.mem_singleton.mp hc]
  exact ⟨h0, h1⟩
theorem enc1_oct {c : Int} (h : Point c) : Oct (enc1 c) := by
  obtain ⟨h1, h2, _⟩ := h
  unfold enc1
  intro x hx
  split at hx
  · have e : x = c := by simpa using hx
    omega
  · split at hx
    · simp only [List.mem_cons, List.not_mem_nil, or_false] at hx
      rcases hx with e | e <;> omega
    · split at hx
      · simp only [List.mem_cons, List.not_mem_nil, or_false] at hx
        rcases hx with e | e | e <;> omega
      · simp only [List.mem_cons, List.not_mem_nil, or_false] at hx
        rcases hx with e | e | e | e <;> omega
theorem encs_oct {k : List Int} (h : ∀ c ∈ k, Point c) : Oct (encs k) := fun o ho => by
  unfold encs at ho
  obtain ⟨c, hc, h2⟩ := List.mem_flatMap.mp ho
  exact enc1_oct (h c hc) o h2
mutual
theorem bf_bw : ∀ (n : Nat) (t : Vl), t.bf n → t.bw n
  | n, .lf k r, h => by
    have h : Lb k r := by cases n <;> exact h
    have q : (∃ os, k = "bytes" ∧ r = [kd os] ∧ os.length ≤ 9000000 ∧ Oct os) ∨ ∃ m e, k = "number" ∧ r = [.int m, .int e] ∧ (m % 10 ≠ 0 ∨ (m = 0 ∧ e = 0)) := by
      cases h with
      | number m e h1 hm =>
        refine .inr ⟨m, e, rfl, rfl, ?_⟩
        rcases h1 with h1 | h1
        · exact .inr h1
        · exact .inl h1.1
      | bytes os h1 => exact .inl ⟨os, rfl, rfl, by omega, h1.2⟩
    cases n <;> exact q
  | 0, .ls xs, h => h.elim
  | n + 1, .ls xs, h => by
    have h : xs.length ≤ 49 ∧ bfL n xs := h
    exact ⟨by omega, bfL_bw n xs h.2⟩
  | 0, .mp es, h => h.elim
  | n + 1, .mp es, h => by
    have h : es.length ≤ 49 ∧ (es.map (·.1)).Pairwise (fun x y => HT.lexLt x y = true) ∧ (∀ e ∈ es, Kp e.1) ∧ bfM n es := h
    exact ⟨by omega, h.2.1, fun e he => ⟨by have := (h.2.2.1 e he).1; omega, (h.2.2.1 e he).2⟩, bfM_bw n es h.2.2.2⟩
theorem bfL_bw : ∀ (n : Nat) (xs : List Vl), bfL n xs → bwL n xs
  | _, [], _ => trivial
  | n, x :: xs, h => ⟨bf_bw n x h.1, bfL_bw n xs h.2⟩
theorem bfM_bw : ∀ (n : Nat) (es : List (List Int × Vl)), bfM n es → bwM n es
  | _, [], _ => trivial
  | n, (_, v) :: es, h => ⟨bf_bw n v h.1, bfM_bw n es h.2⟩
end
mutual
theorem bw_up : ∀ (n m : Nat) (t : Vl), n ≤ m → t.bw n → t.bw m
  | n, m, .lf k r, _, h => by
    have q : (∃ os, k = "bytes" ∧ r = [kd os] ∧ os.length ≤ 9000000 ∧ Oct os) ∨ ∃ m e, k = "number" ∧ r = [.int m, .int e] ∧ (m % 10 ≠ 0 ∨ (m = 0 ∧ e = 0)) := by cases n <;> exact h
    cases m <;> exact q
  | 0, _, .ls xs, _, h => h.elim
  | n + 1, 0, .ls xs, hm, _ => absurd hm (by omega)
  | n + 1, m + 1, .ls xs, hm, h => ⟨h.1, bwL_up n m xs (by omega) h.2⟩
  | 0, _, .mp es, _, h => h.elim
  | n + 1, 0, .mp es, hm, _ => absurd hm (by omega)
  | n + 1, m + 1, .mp es, hm, h => ⟨h.1, h.2.1, h.2.2.1, bwM_up n m es (by omega) h.2.2.2⟩
theorem bwL_up : ∀ (n m : Nat) (xs : List Vl), n ≤ m → bwL n xs → bwL m xs
  | _, _, [], _, _ => trivial
  | n, m, x :: xs, hm, h => ⟨bw_up n m x hm h.1, bwL_up n m xs hm h.2⟩
theorem bwM_up : ∀ (n m : Nat) (es : List (List Int × Vl)), n ≤ m → bwM n es → bwM m es
  | _, _, [], _, _ => trivial
  | n, m, (_, v) :: es, hm, h => ⟨bw_up n m v hm h.1, bwM_up n m es hm h.2⟩
end
mutual
theorem bw_short : ∀ (n : Nat) (t : Vl), t.bw n → Short t.dat ∧ t.dat.depth ≤ 3 * n + 2
  | n, .lf k r, h => by
    rcases (show (∃ os, k = "bytes" ∧ r = [kd os] ∧ os.length ≤ 9000000 ∧ Oct os) ∨ ∃ m e, k = "number" ∧ r = [.int m, .int e] ∧ (m % 10 ≠ 0 ∨ (m = 0 ∧ e = 0)) by cases n <;> exact h) with ⟨os, rfl, rfl, hl, _⟩ | ⟨m, e, rfl, rfl, _⟩
    · refine ⟨⟨by show 2 ≤ _; decide, (by show PyData.canLay0 (.str "bytes") = true; decide +kernel), sh_kd (by omega), trivial⟩, ?_⟩
      have := depth_kd1 os
      show max 0 (max (kd os).depth 0) + 1 ≤ _
      omega
    · exact ⟨⟨by show 3 ≤ _; decide, (by show PyData.canLay0 (.str "number") = true; decide +kernel), trivial, trivial, trivial⟩, by show 1 ≤ _; omega⟩
  | 0, .ls xs, h => h.elim
  | n + 1, .ls xs, h => by
    have h : xs.length ≤ 9000000 ∧ bwL n xs := h
    obtain ⟨q1, q2⟩ := bwL_short n xs h.2
    refine ⟨⟨by show 2 ≤ _; decide, lay_list, ⟨?_, q1⟩, trivial⟩, ?_⟩
    · rw [datL_map, List.length_map]
      omega
    · show max 0 (max (PyData.depthAll (datL xs) + 1) 0) + 1 ≤ _
      omega
  | 0, .mp es, h => h.elim
  | n + 1, .mp es, h => by
    have h : es.length ≤ 9000000 ∧ (es.map (·.1)).Pairwise (fun x y => HT.lexLt x y = true) ∧ (∀ e ∈ es, e.1.length ≤ 9000000 ∧ ∀ p ∈ e.1, Point p) ∧ bwM n es := h
    obtain ⟨q1, q2⟩ := bwM_short n es (fun e he => (h.2.2.1 e he).1) h.2.2.2
    refine ⟨⟨by show 2 ≤ _; decide, lay_map, ⟨?_, q1⟩, trivial⟩, ?_⟩
    · rw [datM_map, List.length_map]
      omega
    · show max 0 (max (PyData.depthAll (datM es) + 1) 0) + 1 ≤ _
      omega
theorem bwL_short : ∀ (n : Nat) (xs : List Vl), bwL n xs → Short.shortAll (datL xs) ∧ PyData.depthAll (datL xs) ≤ 3 * n + 2
  | _, [], _ => ⟨trivial, Nat.zero_le _⟩
  | n, x :: xs, h => by
    obtain ⟨a1, a2⟩ := bw_short n x h.1
    obtain ⟨b1, b2⟩ := bwL_short n xs h.2
    exact ⟨⟨a1, b1⟩, by show max x.dat.depth (PyData.depthAll (datL xs)) ≤ _; omega⟩
theorem bwM_short : ∀ (n : Nat) (es : List (List Int × Vl)), (∀ e ∈ es, e.1.length ≤ 9000000) → bwM n es → Short.shortAll (datM es) ∧ PyData.depthAll (datM es) ≤ 3 * n + 3
  | _, [], _, _ => ⟨trivial, Nat.zero_le _⟩
  | n, (k, x) :: es, hk, h => by
    obtain ⟨a1, a2⟩ := bw_short n x h.1
    obtain ⟨b1, b2⟩ := bwM_short n es (fun e he => hk e (List.mem_cons_of_mem _ he)) h.2
    have k1 : k.length ≤ 9000000 := hk (k, x) (List.mem_cons_self ..)
    have kd1 := depth_kd1 k
    refine ⟨⟨⟨by show 2 ≤ _; decide, sh_kd (by omega), a1, trivial⟩, b1⟩, ?_⟩
    show max (max (kd k).depth (max x.dat.depth 0) + 1) (PyData.depthAll (datM es)) ≤ _
    omega
end
theorem bw_ld {n : Nat} {H : Hp} {v : V} {t : Vl} (h : t.bw 24) (hm : 75 < n) (tp : Tp H v t.dat) : Ld n H v t.dat := tp_ld tp (bw_short 24 t h).1 (Nat.lt_of_le_of_lt (bw_short 24 t h).2 (by omega))

/-! ### spoilt -/

def sp__law_spoilt (K : Frg) : Sp := sp3 fun a o d H Q _ => ∃ (S : SC) (l : Int) (p : Addr) (os : List Int) (q : Addr) (ms : List Int), a = .ref S.a ∧ o = .ref p ∧ d = .ref q ∧ LB K S l H ∧ H p = some (.lst (os.map V.int)) ∧ H q = some (.lst (ms.map V.int)) ∧ os.length ≤ 8500000 ∧ Oct os ∧ ms.length = 15 ∧ Oct ms ∧ p ≠ S.a ∧ q ≠ S.a ∧
  ∀ p' os' H', H' p' = some (.lst (os'.map V.int)) → os'.length ≤ 8600000 → Oct os' → LB K S l H' → Keep S H H' → p' ≠ S.a → Q (.ref p') H'
section
variable {K : PySem.W.Frag} {p : Addr} {xs : List Int} {H : Hp} {Q : VK} {a : Nat}
theorem r_slTo (hs : H p = some (.lst (xs.map V.int))) (h : ∀ (q : Addr) (H' : Hp) (ys : List Int), (∀ y ∈ ys, y ∈ xs) → ys.length ≤ a → H q = none → H' q = some (.lst (ys.map V.int)) → Same H H' → Q (.ref q) H') : rSlL K (.ref p) none (some (a : Int)) H Q :=
  r_slI hs cut_to' fun q H' f g s => h q H' _ (fun y hy => List.mem_of_mem_take hy) (by rw [List.length_take]; omega) f g s
theorem r_slFr (hs : H p = some (.lst (xs.map V.int))) (h : ∀ (q : Addr) (H' : Hp) (ys : List Int), (∀ y ∈ ys, y ∈ xs) → ys.length ≤ xs.length - a → H q = none → H' q = some (.lst (ys.map V.int)) → Same H H' → Q (.ref q) H') : rSlL K (.ref p) (some (a : Int)) none H Q :=
  r_slI hs cut_from fun q H' f g s => h q H' _ (fun y hy => List.mem_of_mem_drop hy) (by rw [List.length_drop]; omega) f g s
theorem r_slFr1 (hs : H p = some (.lst (xs.map V.int))) (h : ∀ (q : Addr) (H' : Hp) (ys : List Int), (∀ y ∈ ys, y ∈ xs) → ys.length ≤ xs.length - (a + 1) → H q = none → H' q = some (.lst (ys.map V.int)) → Same H H' → Q (.ref q) H') : rSlL K (.ref p) (some ((a : Int) + 1)) none H Q := by
  have e : ((a : Int) + 1) = ((a + 1 : Nat) : Int) := by omega
  rw [e]
  exact r_slFr hs h
theorem r_slMi (hs : H p = some (.lst (xs.map V.int))) (h : ∀ (q : Addr) (H' : Hp) (ys : List Int), (∀ y ∈ ys, y ∈ xs) → ys.length ≤ 3 → H q = none → H' q = some (.lst (ys.map V.int)) → Same H H' → Q (.ref q) H') : rSlL K (.ref p) (some (a : Int)) (some ((a : Int) + 3)) H Q := by
  have e : ((a : Int) + 3) = ((a + 3 : Nat) : Int) := by omega
  rw [e]
  exact r_slI hs (cut_mid (by omega)) fun q H' f g s => h q H' _ (fun y hy => List.mem_of_mem_drop (List.mem_of_mem_take hy)) (by rw [List.length_take]; omega) f g s
end
theorem r_slC {K : PySem.W.Frag} {p : Addr} {xs : List Int} {lo hi : Option Int} {H : Hp} {Q : VK} (hs : H p = some (.lst (xs.map V.int))) (h : ∀ (q : Addr) (H' : Hp) (ys : List Int), (∀ y ∈ ys, y ∈ xs) → ys.length ≤ xs.length → H q = none → H' q = some (.lst (ys.map V.int)) → Same H H' → Q (.ref q) H') : rSlL K (.ref p) lo hi H Q := by
  obtain ⟨ws, e, m, l⟩ := cut_ints xs lo hi
  exact r_slI hs e fun q H' a b c => h q H' ws m l a b c
section
variable {P : Program} {w : World} {K : PySem.W.Frag} {mg : Str → Option Value} {base : Heap} {f : Addr} {fd : FuncData}
theorem ok__law_spoilt (F : FunD K "_law_spoilt" "_law_spoilt" (defArgs s__law_spoilt) (defBody s__law_spoilt) (defScope s__law_spoilt) [] [] (glAd "_law_spoilt" K) fd) (m : mg "_law_spoilt" = some (.ref (glAd "_law_spoilt" K))) (nb : Nm K mg) (c__law_next : Cal P w K mg base 1 "_law_next" (sp__law_next K) []) : Cal P w K mg base 2 "_law_spoilt" (sp__law_spoilt K) [] := by
  refine calD F m sc__law_spoilt (fun _ _ _ _ _ _ us hl => match us, hl with | [_, _, _], _ => rfl) len3 (fun cdv A outer s H vs Q E hr h => ⟨_, (pss_cons (ps_for PassesOwn.never rfl (pi_range1 rfl nb.range (pa_cons (pe_c c__law_next hr (by decide) rfl (pa_cons (pv 0) (pa_cons pe_int pa_nil))) pa_nil)) (pg_name (i := 3) sc__law_spoilt.nd rfl (Or.inl rfl))
    (pss_cons (ps_set (i := 1) sc__law_spoilt.nd rfl (Or.inl rfl) (pe_slice sl_list (pv 1) po_none (po_some pe_int)))
    (pss_cons (ps_set (i := 4) sc__law_spoilt.nd rfl (Or.inl rfl) (pe_c c__law_next hr (by decide) rfl (pa_cons (pv 0) (pa_cons (pe_op op_add (pe_callB call_len_seq (by rfl) nb.len PySem.boot_len (pa_cons (pv 1) pa_nil)) pe_int) pa_nil))))
    (pss_cons (ps_set (i := 5) sc__law_spoilt.nd rfl (Or.inl rfl) (pe_ix ix_list (pv 2) (pe_c c__law_next hr (by decide) rfl (pa_cons (pv 0) (pa_cons (pe_callB call_len_seq (by rfl) nb.len PySem.boot_len (pa_cons (pv 2) pa_nil)) pa_nil))) (fun _ _ => rfl)))
    (pss_cut (ps_if (pt_cmpR op_eq (pe_c c__law_next hr (by decide) rfl (pa_cons (pv 0) (pa_cons pe_int pa_nil))) pe_int (nomark _))
    (pss_one (ps_set (i := 5) sc__law_spoilt.nd rfl (Or.inl rfl) (pe_c c__law_next hr (by decide) rfl (pa_cons (pv 0) (pa_cons pe_int pa_nil)))))
    pss_nil)
    (pss_cons (ps_set (i := 6) sc__law_spoilt.nd rfl (Or.inl rfl) (pe_c c__law_next hr (by decide) rfl (pa_cons (pv 0) (pa_cons pe_int pa_nil))))
    (pss_one (ps_if (pt_cmpR op_eq (pv 6) pe_int (nomark _))
    (pss_one (ps_set (i := 1) sc__law_spoilt.nd rfl (Or.inl rfl) (pe_slice sl_list (pv 1) po_none (po_some (pv 4)))))
    (pss_one (ps_if (pt_cmpR op_eq (pv 6) pe_int (nomark _))
    (pss_one (ps_set (i := 1) sc__law_spoilt.nd rfl (Or.inl rfl) (pe_op op_cat (pe_slice sl_list (pv 1) po_none (po_some (pv 4))) (pe_slice sl_list (pv 1) (po_some (pe_op op_add (pv 4) pe_int)) po_none))))
    (pss_one (ps_if (pt_cmpR op_eq (pv 6) pe_int (nomark _))
    (pss_one (ps_set (i := 1) sc__law_spoilt.nd rfl (Or.inl rfl) (pe_op op_cat (pe_op op_cat (pe_slice sl_list (pv 1) po_none (po_some (pv 4))) (pe_lstE (pa_cons (pv 5) pa_nil))) (pe_slice sl_list (pv 1) (po_some (pv 4)) po_none))))
    (pss_one (ps_if (pt_cmpR op_eq (pv 6) pe_int (nomark _))
    (pss_one (ps_set (i := 1) sc__law_spoilt.nd rfl (Or.inl rfl) (pe_op op_cat (pe_op op_cat (pe_slice sl_list (pv 1) po_none (po_some (pv 4))) (pe_lstE (pa_cons (pv 5) pa_nil))) (pe_slice sl_list (pv 1) (po_some (pe_op op_add (pv 4) pe_int)) po_none))))
    (pss_one (ps_if (pt_cmpR op_eq (pv 6) pe_int (nomark _))
    (pss_one (ps_set (i := 1) sc__law_spoilt.nd rfl (Or.inl rfl) (pe_op op_cat (pv 1) (pe_lstE (pa_cons (pv 5) pa_nil)))))
    (pss_one (ps_set (i := 1) sc__law_spoilt.nd rfl (Or.inl rfl) (pe_op op_cat (pe_op op_cat (pe_slice sl_list (pv 1) po_none (po_some (pv 4))) (pe_slice sl_list (pv 1) (po_some (pv 4)) (po_some (pe_op op_add (pv 4) pe_int)))) (pe_slice sl_list (pv 1) (po_some (pv 4)) po_none))))))))))))))))))))
    (pss_one (ps_ret (pv 1)))), ?_⟩)
  obtain ⟨_, _, _, rfl, S, l, p, os, q, ms, rfl, rfl, rfl, L, hp, hq, hl, ho, ml, mo, np, nq, h⟩ := h
  -- 0:state 1:octets 2:odd 3:k 4:at 5:octet 6:pick
  walk_at "rf"
  refine b_next L (by decide) fun r H1 r0 r1 L1 k1 => ?_
  walk_at "rf"
  refine r_turns (by omega) (by omega) (fun i σ H' => ∃ (p' : Addr) (os' : List Int) (y3 y4 y5 y6 : Option V), H' p' = some (.lst (os'.map V.int)) ∧ os'.length ≤ 8600000 ∧ Oct os' ∧ LB K S l H' ∧ Keep S H H' ∧ p' ≠ S.a ∧ σ = [some (.ref S.a), some (.ref p'), some (.ref q), y3, y4, y5, y6]) ⟨p, os, _, _, _, _, k1 _ _ np hp, by omega, ho, L1, k1, np, rfl⟩ ?_ ?_
  · rintro i σ H2 hi ⟨p2, os2, y3, y4, y5, y6, g2, l2, o2, L2, k2, n2, rfl⟩
    walk_at "rf"
    refine ⟨900, rfl, ?_⟩
    refine r_slI g2 (cut_to' (d := 900)) fun p3 H3 f3 g3 s3 => ?_
    have l3 : (os2.take 900).length ≤ 900 := by rw [List.length_take]; omega
    have o3 : Oct (os2.take 900) := o2.sub fun y hy => List.mem_of_mem_take hy
    generalize os2.take 900 = os3 at g3 l3 o3
    have L3 := L2.same s3
    have n3 := L2.ne_free f3
    have k3 := k2.trans (Keep.of s3)
    clear g2 l2 o2 L2 k2 n2 s3 f3
    walk_at "rf"
    refine ⟨p3, _, rfl, .inl (SqL.of g3), ?_⟩
    rw [List.length_map]
    walk_at "rf"
    refine b_next L3 (by omega) fun at_ H4 a0 a1 L4 k4 => ?_
    have g4 := k4 _ _ n3 g3
    have k04 := k3.trans k4
    have q4 := k04 _ _ nq hq
    clear g3 L3 k3 k4
    walk_at "rf"
    refine ⟨q, _, rfl, .inl (SqL.of q4), ?_⟩
    rw [List.length_map, ml]
    walk_at "rf"
    refine b_next L4 (by decide) fun j H5 j0 j1 L5 k5 => ?_
    have g5 := k5 _ _ n3 g4
    have k05 := k04.trans k5
    have q5 := k05 _ _ nq hq
    have hj : j.toNat < ms.length := by omega
    have ej : j = ((j.toNat : Nat) : Int) := by omega
    rw [ej]
    refine r_ixL (SqL.of q5) (atI_nat (v := V.int ms[j.toNat]) (by rw [List.getElem?_map, List.getElem?_eq_getElem hj]; rfl)) ?_
    obtain ⟨c0, c1⟩ := mo ms[j.toNat] (List.getElem_mem hj)
    generalize ms[j.toNat] = o at c0 c1
    clear g4 L4 k04 q4 k5
    walk_at "rg"
    refine r_cut (fun σ H' => ∃ o : Int, 0 ≤ o ∧ o ≤ 255 ∧ H' p3 = some (.lst (os3.map V.int)) ∧ LB K S l H' ∧ Keep S H H' ∧ σ = [some (.ref S.a), some (.ref p3), some (.ref q), some (.int (i : Nat)), some (.int at_), some (.int o), y6]) ?_ ?_
    · walk_at "rf"
      refine b_next L5 (by decide) fun r6 H6 a6 b6 L6 k6 => ?_
      have g6 := k6 _ _ n3 g5
      have k06 := k05.trans k6
      walk_at "rf"
      refine r_ite (fun c => ?_) (fun c => ?_)
      · walk_at "rf"
        refine b_next L6 (by decide) fun r7 H7 a7 b7 L7 k7 => ?_
        walk_at "rf"
        exact ⟨r7, a7, by omega, k7 _ _ n3 g6, L7, k06.trans k7, rfl⟩
      · walk_at "rf"
        exact ⟨o, c0, c1, g6, L6, k06, rfl⟩
    clear g5 L5 k05 q5 c0 c1
    rintro σ H5 ⟨o, c0, c1, g5, L5, k5, rfl⟩
    walk_at "rf"
    refine b_next L5 (by decide) fun pick H6 p0 p1 L6 k6 => ?_
    have g6 := k6 _ _ n3 g5
    have k06 := k5.trans k6
    clear g5 L5 k5 k6
    have oo : Oct [o] := fun c hc => by rw [List.mem_singleton.mp hc]; exact ⟨c0, c1⟩
    walk_at "rf"
    refine r_ite (fun c => ?_) (fun c => ?_)
    · walk_at "rf"
      try (refine ⟨_, rfl, ?_⟩; walk_at "rf")
      try (refine ⟨_, rfl, ?_⟩; walk_at "rf")
      refine r_slC g6 fun p7 H7 ys m7 l7 f7 g7 s7 => ?_
      walk_at "rf"
      exact ⟨p7, ys, _, _, _, _, g7, by omega, o3.sub m7, L6.same s7, k06.trans (Keep.of s7), L6.ne_free f7, rfl⟩
    walk_at "rf"
    refine r_ite (fun c => ?_) (fun c => ?_)
    · walk_at "rf"
      try (refine ⟨_, rfl, ?_⟩; walk_at "rf")
      try (refine ⟨_, rfl, ?_⟩; walk_at "rf")
      refine r_slC g6 fun p7 H7 ys m7 l7 f7 g7 s7 => ?_
      walk_at "rf"
      try (refine ⟨_, rfl, ?_⟩; walk_at "rf")
      try (refine ⟨_, rfl, ?_⟩; walk_at "rf")
      refine r_slC (s7 _ _ g6) fun p8 H8 zs m8 l8 f8 g8 s8 => ?_
      walk_at "rf"
      refine r_catB (s8 _ _ g7) g8 (by omega) fun p9 H9 f9 g9 s9 => ?_
      walk_at "rf"
      exact ⟨p9, ys ++ zs, _, _, _, _, g9, by rw [List.length_append]; omega, (o3.sub m7).app (o3.sub m8), ((L6.same s7).same s8).same s9, k06.trans (Keep.of ((s7.trans s8).trans s9)), ((L6.same s7).same s8).ne_free f9, rfl⟩
    walk_at "rf"
    refine r_ite (fun c => ?_) (fun c => ?_)
    · walk_at "rf"
      try (refine ⟨_, rfl, ?_⟩; walk_at "rf")
      try (refine ⟨_, rfl, ?_⟩; walk_at "rf")
      refine r_slC g6 fun p7 H7 ys m7 l7 f7 g7 s7 => ?_
      walk_at "rf"
      refine ⟨by show 1 ≤ sizeLine; decide, fun p8 H8 f8 g8 s8 => ?_⟩
      walk_at "rf"
      refine r_catB (ys := [o]) (s8 _ _ g7) g8 (by show _ + 1 ≤ _; omega) fun p9 H9 f9 g9 s9 => ?_
      walk_at "rf"
      have s79 := (s7.trans s8).trans s9
      try (refine ⟨_, rfl, ?_⟩; walk_at "rf")
      try (refine ⟨_, rfl, ?_⟩; walk_at "rf")
      refine r_slC (s79 _ _ g6) fun pa Ha zs ma la fa ga sa => ?_
      walk_at "rf"
      refine r_catB (sa _ _ g9) ga (by rw [List.length_append]; show _ + 1 + _ ≤ _; omega) fun pb Hb fb gb sb => ?_
      walk_at "rf"
      have L9 := (L6.same s79).same sa
      exact ⟨pb, (ys ++ [o]) ++ zs, _, _, _, _, gb, by rw [List.length_append, List.length_append]; show _ + 1 + _ ≤ _; omega, ((o3.sub m7).app oo).app (o3.sub ma), L9.same sb, k06.trans (Keep.of ((s79.trans sa).trans sb)), L9.ne_free fb, rfl⟩
    walk_at "rf"
    refine r_ite (fun c => ?_) (fun c => ?_)
    · walk_at "rf"
      try (refine ⟨_, rfl, ?_⟩; walk_at "rf")
      try (refine ⟨_, rfl, ?_⟩; walk_at "rf")
      refine r_slC g6 fun p7 H7 ys m7 l7 f7 g7 s7 => ?_
      walk_at "rf"
      refine ⟨by show 1 ≤ sizeLine; decide, fun p8 H8 f8 g8 s8 => ?_⟩
      walk_at "rf"
      refine r_catB (ys := [o]) (s8 _ _ g7) g8 (by show _ + 1 ≤ _; omega) fun p9 H9 f9 g9 s9 => ?_
      walk_at "rf"
      have s79 := (s7.trans s8).trans s9
      try (refine ⟨_, rfl, ?_⟩; walk_at "rf")
      try (refine ⟨_, rfl, ?_⟩; walk_at "rf")
      refine r_slC (s79 _ _ g6) fun pa Ha zs ma la fa ga sa => ?_
      walk_at "rf"
      refine r_catB (sa _ _ g9) ga (by rw [List.length_append]; show _ + 1 + _ ≤ _; omega) fun pb Hb fb gb sb => ?_
      walk_at "rf"
      have L9 := (L6.same s79).same sa
      exact ⟨pb, (ys ++ [o]) ++ zs, _, _, _, _, gb, by rw [List.length_append, List.length_append]; show _ + 1 + _ ≤ _; omega, ((o3.sub m7).app oo).app (o3.sub ma), L9.same sb, k06.trans (Keep.of ((s79.trans sa).trans sb)), L9.ne_free fb, rfl⟩
    walk_at "rf"
    refine r_ite (fun c => ?_) (fun c => ?_)
    · walk_at "rf"
      refine ⟨by show 1 ≤ sizeLine; decide, fun p8 H8 f8 g8 s8 => ?_⟩
      walk_at "rf"
      refine r_catB (ys := [o]) (s8 _ _ g6) g8 (by show _ + 1 ≤ _; omega) fun p9 H9 f9 g9 s9 => ?_
      walk_at "rf"
      exact ⟨p9, os3 ++ [o], _, _, _, _, g9, by rw [List.length_append]; show _ + 1 ≤ _; omega, o3.app oo, (L6.same s8).same s9, k06.trans (Keep.of (s8.trans s9)), (L6.same s8).ne_free f9, rfl⟩
    · walk_at "rf"
      try (refine ⟨_, rfl, ?_⟩; walk_at "rf")
      try (refine ⟨_, rfl, ?_⟩; walk_at "rf")
      refine r_slC g6 fun p7 H7 ys m7 l7 f7 g7 s7 => ?_
      walk_at "rf"
      try (refine ⟨_, rfl, ?_⟩; walk_at "rf")
      try (refine ⟨_, rfl, ?_⟩; walk_at "rf")
      refine r_slC (s7 _ _ g6) fun p8 H8 zs m8 l8 f8 g8 s8 => ?_
      walk_at "rf"
      refine r_catB (s8 _ _ g7) g8 (by omega) fun p9 H9 f9 g9 s9 => ?_
      walk_at "rf"
      have s79 := (s7.trans s8).trans s9
      try (refine ⟨_, rfl, ?_⟩; walk_at "rf")
      try (refine ⟨_, rfl, ?_⟩; walk_at "rf")
      refine r_slC (s79 _ _ g6) fun pa Ha ws ma la fa ga sa => ?_
      walk_at "rf"
      refine r_catB (sa _ _ g9) ga (by rw [List.length_append]; omega) fun pb Hb fb gb sb => ?_
      walk_at "rf"
      have L9 := (L6.same s79).same sa
      exact ⟨pb, (ys ++ zs) ++ ws, _, _, _, _, gb, by rw [List.length_append, List.length_append]; omega, ((o3.sub m7).app (o3.sub m8)).app (o3.sub ma), L9.same sb, k06.trans (Keep.of ((s79.trans sa).trans sb)), L9.ne_free fb, rfl⟩
  · rintro σ H2 ⟨p2, os2, y3, y4, y5, y6, g2, l2, o2, L2, k2, n2, rfl⟩
    walk_at "rf"
    exact h p2 os2 H2 g2 l2 o2 L2 k2 n2
end

/-! ### planted -/



/-- a new list of octets, not too long -/
def PlT (K : Frg) (S : SC) (l : Int) (H : Hp) (n : Nat) (Q : VK) : Prop := ∀ (p : Addr) (xs : List Int) (H' : Hp), H' p = some (.lst (xs.map V.int)) → xs.length ≤ n → Oct xs → LB K S l H' → Keep S H H' → p ≠ S.a → Q (.ref p) H'
def sp__law_count_planted (K : Frg) : Sp := sp2 fun a b H Q _ => ∃ (S : SC) (l : Int) (n : Nat), a = .ref S.a ∧ b = .int n ∧ n ≤ 10000 ∧ LB K S l H ∧ PlT K S l H 20 Q
def sp__law_leaf_planted (K : Frg) : Sp := sp2 fun a b H Q _ => ∃ (S : SC) (l : Int) (k : Str) (r : List PyData), a = .ref S.a ∧ Tp H b (.tuple (.str k :: r)) ∧ Lb k r ∧ LB K S l H ∧ PlT K S l H 1000 Q
def sp__law_key_planted (K : Frg) : Sp := sp2 fun a b H Q _ => ∃ (S : SC) (l : Int) (p : Addr) (ps : List Int), a = .ref S.a ∧ b = .ref p ∧ H p = some (.tup (ps.map V.int)) ∧ Kp ps ∧ LB K S l H ∧ PlT K S l H 830 Q
section
variable {P : Program} {w : World} {K : PySem.W.Frag} {mg : Str → Option Value} {base : Heap} {f : Addr} {fd : FuncData}
theorem ok__law_count_planted (F : FunD K "_law_count_planted" "_law_count_planted" (defArgs s__law_count_planted) (defBody s__law_count_planted) (defScope s__law_count_planted) [] [] (glAd "_law_count_planted" K) fd) (m : mg "_law_count_planted" = some (.ref (glAd "_law_count_planted" K))) (nb : Nm K mg) (c__law_next : Cal P w K mg base 1 "_law_next" (sp__law_next K) []) (c__law_ascii : Cal P w K mg base 1 "_law_ascii" (sp__law_ascii K) []) : Cal P w K mg base 2 "_law_count_planted" (sp__law_count_planted K) [] := by
  refine calD F m sc__law_count_planted (fun _ _ _ _ _ _ us hl => match us, hl with | [_, _], _ => rfl) len2 (fun cdv A outer s H vs Q E hr h => ⟨_, (pss_cut (ps_if (pt_cmpR op_eq (pe_c c__law_next hr (by decide) rfl (pa_cons (pv 0) (pa_cons pe_int pa_nil))) pe_int (nomark _))
    (pss_one (ps_set (i := 1) sc__law_count_planted.nd rfl (Or.inl rfl) (pe_callB (call_max2 rfl) (by rfl) nb.max (by decide +kernel) (pa_cons pe_int (pa_cons (pe_op op_add (pv 1) (pe_ix ix_list (pe_lstE (pa_cons pe_int (pa_cons (pe_un un_neg pe_int) pa_nil))) (pe_c c__law_next hr (by decide) rfl (pa_cons (pv 0) (pa_cons pe_int pa_nil))) (fun _ _ => rfl))) pa_nil)))))
    pss_nil)
    (pss_one (ps_ret (pe_c c__law_ascii hr (by decide) rfl (pa_cons (pe_op op_add_str (pe_op op_add_str (pe_op op_repS pe_str (pe_callTy call_int1 (by rfl) nb.int (by decide +kernel) (pa_cons (pe_cmpR op_eq (pe_c c__law_next hr (by decide) rfl (pa_cons (pv 0) (pa_cons pe_int pa_nil))) pe_int (nomark _)) pa_nil))) (pe_callTy (call_strW rfl nb.dig) (by rfl) nb.str (by decide +kernel) (pa_cons (pv 1) pa_nil))) pe_str) pa_nil))))), ?_⟩)
  obtain ⟨_, _, rfl, S, l, n, rfl, rfl, hn, L, h⟩ := h
  walk_at "rg"
  refine r_cut (fun σ H' => ∃ m : Nat, m ≤ 10001 ∧ LB K S l H' ∧ Keep S H H' ∧ σ = [some (.ref S.a), some (.int m)]) ?_ ?_
  · walk_at "rf"
    refine b_next L (by decide) fun r H1 r0 r1 L1 k1 => ?_
    walk_at "rf"
    refine r_ite (fun c => ?_) (fun c => ?_)
    · walk_at "rf"
      refine ⟨by show 2 ≤ sizeLine; decide, fun p2 H2 f2 g2 s2 => ?_⟩
      walk_at "rf"
      have L2 := L1.same s2
      have n2 := L1.ne_free f2
      refine b_next L2 (by decide) fun j H3 j0 j1 L3 k3 => ?_
      obtain ⟨v, ev, hv⟩ : ∃ v : Int, atI [V.int 1, .int (-1)] j = some (V.int v) ∧ (v = 1 ∨ v = -1) := by
        have : j = 0 ∨ j = 1 := by omega
        rcases this with e | e <;> subst e
        · exact ⟨1, rfl, .inl rfl⟩
        · exact ⟨-1, rfl, .inr rfl⟩
      refine r_ixL (SqL.of (k3 _ _ n2 g2)) ev ?_
      walk_at "rf"
      refine ⟨_, _, rfl, ?_⟩
      walk_at "rf"
      refine ⟨(if (n : Int) + v > 0 then (n : Int) + v else 0).toNat, by split <;> omega, L3, k1.trans ((Keep.of s2).trans k3), ?_⟩
      have em : (((if (n : Int) + v > 0 then (n : Int) + v else 0).toNat : Nat) : Int) = if (n : Int) + v > 0 then (n : Int) + v else 0 := by split <;> omega
      rw [em]
      rfl
    · walk_at "rf"
      exact ⟨n, by omega, L1, k1, rfl⟩
  · rintro σ H1 ⟨m, hm, L1, k1, rfl⟩
    walk_at "rf"
    refine b_next L1 (by decide) fun r H2 r0 r1 L2 k2 => ?_
    walk_at "rf"
    refine .inr ⟨_, rfl, ?_⟩
    refine r_rep (c := 48) (show ("0" : Str) = sOf [48] by decide +kernel) (by split <;> omega) (by split <;> omega) ?_
    walk_at "rf"
    refine ⟨Nat.lt_of_le_of_lt (show m ≤ 10001 from hm) (Nat.lt_of_lt_of_le (by decide : 10001 < 10 ^ 5) (Nat.pow_le_pow_right (by decide) (by decide))), ?_⟩
    rw [show (Str.ofString (toString (m : Int))) = sOf (dg m) from str_dg m]
    have dl : (dg m).length ≤ 6 := dg_lenP (Nat.lt_of_le_of_lt hm (by decide : 10001 < 10 ^ 5))
    generalize hz : (if decide (r = 5) = true then (1 : Int) else 0) = z
    have z1 : z.toNat ≤ 1 := by rw [← hz]; split <;> decide
    refine r_add rfl rfl (by rw [List.length_replicate]; omega) ?_
    rw [S_cat]
    walk_at "rf"
    refine r_add rfl (show (":" : Str) = sOf [58] by decide +kernel) (by rw [List.length_append, List.length_replicate]; show _ + 1 ≤ _; omega) ?_
    rw [S_cat]
    walk_at "rf"
    have tl : (List.replicate z.toNat 48 ++ dg m ++ [58]).length ≤ 20 := by rw [List.length_append, List.length_append, List.length_replicate]; show _ + 1 ≤ _; omega
    refine ⟨_, rfl, _, rfl, by omega, fun p3 H3 n3 g3 s3 => ?_⟩
    exact h p3 _ H3 g3 (by rw [asc_len]; exact tl) (asc_oct (((ch8_rep _ (by decide)).app (ch8_dg m)).app (ch8_one (by decide)))) (L2.same s3) ((k1.trans k2).trans (Keep.of s3)) (L2.ne_free n3)
theorem ok__law_leaf_planted (F : FunD K "_law_leaf_planted" "_law_leaf_planted" (defArgs s__law_leaf_planted) (defBody s__law_leaf_planted) (defScope s__law_leaf_planted) [] [] (glAd "_law_leaf_planted" K) fd) (m : mg "_law_leaf_planted" = some (.ref (glAd "_law_leaf_planted" K))) (nb : Nm K mg) (c__law_next : Cal P w K mg base 1 "_law_next" (sp__law_next K) []) (c__law_ascii : Cal P w K mg base 1 "_law_ascii" (sp__law_ascii K) []) (c__law_count_planted : Cal P w K mg base 2 "_law_count_planted" (sp__law_count_planted K) []) : Cal P w K mg base 3 "_law_leaf_planted" (sp__law_leaf_planted K) [] := by
  refine calD F m sc__law_leaf_planted (fun _ _ _ _ _ _ us hl => match us, hl with | [_, _], _ => rfl) len2 (fun cdv A outer s H vs Q E hr h => ⟨_, (pss_cons (ps_if (pt_cmpR op_eq (pe_ix ix_tup (pv 1) pe_int (fun _ _ => rfl)) pe_str (nomark _))
    (pss_one (ps_ret (pe_op op_cat (pe_c c__law_count_planted hr (by decide) rfl (pa_cons (pv 0) (pa_cons (pe_callB call_len_seq (by rfl) nb.len PySem.boot_len (pa_cons (pe_ix ix_tup (pv 1) pe_int (fun _ _ => rfl)) pa_nil)) pa_nil))) (pe_callTy call_list_ofE (by rfl) nb.list (by decide +kernel) (pa_cons (pe_ix ix_tup (pv 1) pe_int (fun _ _ => rfl)) pa_nil)))))
    pss_nil)
    (pss_cons (ps_set (i := 2) sc__law_leaf_planted.nd rfl (Or.inl rfl) (pe_op op_add_str (pe_callTy (call_strW rfl nb.dig) (by rfl) nb.str (by decide +kernel) (pa_cons (pe_callB call_abs (by rfl) nb.abs (by decide +kernel) (pa_cons (pe_ix ix_tup (pv 1) pe_int (fun _ _ => rfl)) pa_nil)) pa_nil)) (pe_op op_repS pe_str (pe_ix ix_tup (pv 1) pe_int (fun _ _ => rfl)))))
    (pss_cut (ps_if (pt_cmpR op_eq (pe_c c__law_next hr (by decide) rfl (pa_cons (pv 0) (pa_cons pe_int pa_nil))) pe_int (nomark _))
    (pss_one (ps_set (i := 2) sc__law_leaf_planted.nd rfl (Or.inl rfl) (pe_op op_add_str pe_str (pv 2))))
    pss_nil)
    (pss_cut (ps_if (PW.pt (pw_and (pt_cmpR op_gt (pe_ix ix_list (pv 0) pe_int (fun _ _ => rfl)) pe_int (nomark _)) (pw_and1 (pt_cmpR op_eq (pe_c c__law_next hr (by decide) rfl (pa_cons (pv 0) (pa_cons pe_int pa_nil))) pe_int (nomark _)))))
    (pss_cons (ps_asg (pe_op op_sub (pe_ix ix_list (pv 0) pe_int (fun _ _ => rfl)) pe_int) (pg_sub (pv 0) pe_int set_list))
    (pss_one (ps_set (i := 2) sc__law_leaf_planted.nd rfl (Or.inl rfl) (pe_op op_add_str (pe_callTy (call_strW rfl nb.dig) (by rfl) nb.str (by decide +kernel) (pa_cons (pe_callB call_abs (by rfl) nb.abs (by decide +kernel) (pa_cons (pe_ix ix_tup (pv 1) pe_int (fun _ _ => rfl)) pa_nil)) pa_nil)) (pe_op op_repS pe_str (pe_op op_add pe_int (pe_c c__law_next hr (by decide) rfl (pa_cons (pv 0) (pa_cons pe_int pa_nil)))))))))
    pss_nil)
    (pss_cut (ps_if (PW.pt (pw_or (pt_cmpR op_lt (pe_ix ix_tup (pv 1) pe_int (fun _ _ => rfl)) pe_int (nomark _)) (pw_or1 (pt_cmpR op_eq (pe_c c__law_next hr (by decide) rfl (pa_cons (pv 0) (pa_cons pe_int pa_nil))) pe_int (nomark _)))))
    (pss_one (ps_set (i := 2) sc__law_leaf_planted.nd rfl (Or.inl rfl) (pe_op op_add_str pe_str (pv 2))))
    pss_nil)
    (pss_one (ps_ret (pe_op op_cat (pe_op op_cat (pe_lstE (pa_cons pe_int pa_nil)) (pe_c c__law_ascii hr (by decide) rfl (pa_cons (pv 2) pa_nil))) (pe_lstE (pa_cons pe_int pa_nil)))))))))), ?_⟩)
  obtain ⟨_, _, rfl, S, l, k, r, rfl, tp, lb, L, h⟩ := h
  obtain ⟨a, xs, rfl, ha, hx⟩ := tp_tup tp
  cases lb with
  | number m e nf hm =>
    cases hx with
    | cons h1 h2 =>
    cases h1
    cases h2 with
    | cons h1 h2 =>
    cases h1
    cases h2 with
    | cons h1 h2 =>
    cases h1
    cases h2
    have he : 0 ≤ e ∧ e ≤ 800 := by
      rcases nf with ⟨_, q⟩ | q
      · omega
      · exact q.2
    walk_at "rf"
    refine r_ixT (SqT.of ha) (atI_nat (j := 0) rfl) ?_
    walk_at "rf"
    refine r_iteN (show ¬ ("number" : Str) = "bytes" by decide +kernel) ?_
    walk_at "rf"
    refine r_ixT (SqT.of ha) (atI_nat (j := 1) rfl) ?_
    walk_at "rf"
    have em : (if m < 0 then -m else m) = ((m.natAbs : Nat) : Int) := by split <;> omega
    have dl : (dg m.natAbs).length ≤ 61 := dg_lenP hm
    refine ⟨by rw [em]; exact Nat.lt_trans hm (Nat.pow_lt_pow_right (by decide) (by decide)), ?_⟩
    rw [em, show (Str.ofString (toString ((m.natAbs : Nat) : Int))) = sOf (dg m.natAbs) from str_dg m.natAbs]
    walk_at "rf"
    refine r_ixT (SqT.of ha) (atI_nat (j := 2) rfl) ?_
    refine r_rep (c := 48) (show ("0" : Str) = sOf [48] by decide +kernel) (by omega) (by omega) ?_
    refine r_add rfl rfl (by rw [List.length_replicate]; omega) ?_
    rw [S_cat]
    walk_at "rf"
    have t1 : (dg m.natAbs ++ List.replicate e.toNat 48).length ≤ 900 := by rw [List.length_append, List.length_replicate]; omega
    have c1 : Ch8 (dg m.natAbs ++ List.replicate e.toNat 48) := (ch8_dg _).app (ch8_rep _ (by decide))
    generalize dg m.natAbs ++ List.replicate e.toNat 48 = x1 at t1 c1
    walk_at "rg"
    refine r_cut (fun σ H' => ∃ x : List Nat, x.length ≤ 901 ∧ Ch8 x ∧ LB K S l H' ∧ Keep S H H' ∧ σ = [some (.ref S.a), some (.ref a), some (.str (sOf x))]) ?_ ?_
    · walk_at "rf"
      refine b_next L (by decide) fun r H1 r0 r1 L1 k1 => ?_
      walk_at "rf"
      refine r_ite (fun c => ?_) (fun c => ?_)
      · walk_at "rf"
        refine r_add (show ("0" : Str) = sOf [48] by decide +kernel) rfl (by show 1 + _ ≤ _; omega) ?_
        rw [S_cat]
        walk_at "rf"
        exact ⟨_, (by rw [List.length_append]; show 1 + _ ≤ _; omega), (ch8_one (by decide)).app c1, L1, k1, rfl⟩
      · walk_at "rf"
        exact ⟨x1, by omega, c1, L1, k1, rfl⟩
    rintro σ H1 ⟨x2, t2, c2', L1, k1, rfl⟩
    walk_at "rg"
    refine r_cut (fun σ H' => ∃ x : List Nat, x.length ≤ 901 ∧ Ch8 x ∧ LB K S l H' ∧ Keep S H H' ∧ σ = [some (.ref S.a), some (.ref a), some (.str (sOf x))]) ?_ ?_
    · obtain ⟨kk, f5, e5⟩ := L1.at_
      walk_at "rf"
      refine r_ixL (SqL.of e5) rfl ?_
      walk_at "rf"
      refine r_ite (fun c => ?_) (fun c => ?_)
      · walk_at "rf"
        refine b_next L1 (by decide) fun r H2 r0 r1 L2 k2 => ?_
        walk_at "rf"
        refine r_ite (fun c2 => ?_) (fun c2 => ?_)
        · obtain ⟨kk, f6, e6⟩ := L2.at_
          walk_at "rf"
          refine r_ixL (SqL.of e6) rfl ?_
          walk_at "rf"
          refine r_setL e6 rfl ?_
          walk_at "rf"
          have L4 := L2.put kk l (f6 - 1)
          have k4 := (k1.trans k2).trans (Keep.put (H := H2) (.lst [.ref S.nl, .int kk, .int l, .ref S.sl, .int (f6 - 1)]))
          have tk4 := keep_tk L.ls k4
          refine r_ixT (SqT.of (tk4 _ _ ha)) (atI_nat (j := 1) rfl) ?_
          walk_at "rf"
          refine ⟨by rw [em]; exact Nat.lt_trans hm (Nat.pow_lt_pow_right (by decide) (by decide)), ?_⟩
          rw [em, show (Str.ofString (toString ((m.natAbs : Nat) : Int))) = sOf (dg m.natAbs) from str_dg m.natAbs]
          walk_at "rf"
          refine b_next L4 (by decide) fun r5 H5 a5 b5 L5 k5 => ?_
          walk_at "rf"
          refine r_rep (c := 48) (show ("0" : Str) = sOf [48] by decide +kernel) (by omega) (by omega) ?_
          refine r_add rfl rfl (by rw [List.length_replicate]; omega) ?_
          rw [S_cat]
          walk_at "rf"
          exact ⟨_, (by rw [List.length_append, List.length_replicate]; omega), (ch8_dg _).app (ch8_rep _ (by decide)), L5, k4.trans k5, rfl⟩
        · walk_at "rf"
          exact ⟨x2, by omega, c2', L2, k1.trans k2, rfl⟩
      · walk_at "rf"
        exact ⟨x2, by omega, c2', L1, k1, rfl⟩
    rintro σ H2 ⟨x3, t3, c3, L2, k2, rfl⟩
    walk_at "rg"
    refine r_cut (fun σ H' => ∃ x : List Nat, x.length ≤ 902 ∧ Ch8 x ∧ LB K S l H' ∧ Keep S H H' ∧ σ = [some (.ref S.a), some (.ref a), some (.str (sOf x))]) ?_ ?_
    · walk_at "rf"
      have tk2 := keep_tk L.ls k2
      refine r_ixT (SqT.of (tk2 _ _ ha)) (atI_nat (j := 1) rfl) ?_
      walk_at "rf"
      have fin : ∀ H', LB K S l H' → Keep S H H' → ∃ x : List Nat, x.length ≤ 902 ∧ Ch8 x ∧ LB K S l H' ∧ Keep S H H' ∧ [some (V.ref S.a), some (.ref a), some (.str (sOf ([45] ++ x3)))] = [some (V.ref S.a), some (.ref a), some (.str (sOf x))] := fun H' L' k' => ⟨_, (by rw [List.length_append]; show 1 + _ ≤ _; omega), (ch8_one (by decide)).app c3, L', k', rfl⟩
      refine r_ite (fun c => ?_) (fun c => ?_)
      · walk_at "rf"
        refine r_add (show ("-" : Str) = sOf [45] by decide +kernel) rfl (by show 1 + _ ≤ _; omega) ?_
        rw [S_cat]
        walk_at "rf"
        exact fin _ L2 k2
      · walk_at "rf"
        refine b_next L2 (by decide) fun r H4 r0 r1 L4 k4 => ?_
        walk_at "rf"
        refine r_ite (fun c => ?_) (fun c => ?_)
        · walk_at "rf"
          refine r_add (show ("-" : Str) = sOf [45] by decide +kernel) rfl (by show 1 + _ ≤ _; omega) ?_
          rw [S_cat]
          walk_at "rf"
          exact fin _ L4 (k2.trans k4)
        · walk_at "rf"
          exact ⟨x3, by omega, c3, L4, k2.trans k4, rfl⟩
    rintro σ H3 ⟨x4, t4, c4, L3, k3, rfl⟩
    walk_at "rf"
    refine ⟨by show 1 ≤ sizeLine; decide, fun q1 H4 n4 g4 s4 => ?_⟩
    have g4 : H4 q1 = some (.lst (([105] : List Int).map V.int)) := g4
    walk_at "rf"
    refine ⟨_, rfl, x4, rfl, by omega, fun q2 H5 n5 g5 s5 => ?_⟩
    refine r_catB (s5 _ _ g4) g5 (by rw [asc_len]; show 1 + _ ≤ _; omega) fun q3 H6 n6 g6 s6 => ?_
    walk_at "rf"
    refine ⟨by show 1 ≤ sizeLine; decide, fun q4 H7 n7 g7 s7 => ?_⟩
    have g7 : H7 q4 = some (.lst (([101] : List Int).map V.int)) := g7
    walk_at "rf"
    refine r_catB (s7 _ _ g6) g7 (by rw [List.length_append, asc_len]; show 1 + _ + 1 ≤ _; omega) fun q5 H8 n8 g8 s8 => ?_
    have L7 := (((L3.same s4).same s5).same s6).same s7
    exact h q5 _ H8 g8 (by rw [List.length_append, List.length_append, asc_len]; show 1 + _ + 1 ≤ _; omega) (((oct_one (by decide) (by decide)).app (asc_oct c4)).app (oct_one (by decide) (by decide))) (L7.same s8) (k3.trans (Keep.of ((((s4.trans s5).trans s6).trans s7).trans s8))) (L7.ne_free n8)
  | bytes os hl =>
    cases hx with
    | cons h1 h2 =>
    cases h1
    cases h2 with
    | cons h1 h2 =>
    cases h2
    obtain ⟨b, rfl, hb⟩ := tp_kdB h1
    walk_at "rf"
    refine r_ixT (SqT.of ha) (atI_nat (j := 0) rfl) ?_
    walk_at "rf"
    refine r_ite (fun _ => ?_) (fun c => absurd rfl c)
    walk_at "rf"
    refine r_ixT (SqT.of ha) (atI_nat (j := 1) rfl) ?_
    walk_at "rf"
    refine ⟨b, _, rfl, .inr (SqT.of hb), ?_⟩
    rw [List.length_map]
    walk_at "rf"
    refine ⟨_, _, rfl, S, l, os.length, rfl, rfl, by omega, L, fun p1 xs1 H1 g1 l1 o1 L1 k1 n1 => ?_⟩
    walk_at "rf"
    have tk1 := keep_tk L.ls k1
    refine r_ixT (SqT.of (tk1 _ _ ha)) (atI_nat (j := 1) rfl) ?_
    walk_at "rf"
    refine ⟨b, _, rfl, .inr (SqT.of (tk1 _ _ hb)), fun p2 H2 n2 g2 s2 => ?_⟩
    refine r_catB (s2 _ _ g1) g2 (by omega) fun p3 H3 n3 g3 s3 => ?_
    have L2 := L1.same s2
    exact h p3 _ H3 g3 (by rw [List.length_append]; omega) (o1.app hl.2) (L2.same s3) (k1.trans (Keep.of (s2.trans s3))) (L2.ne_free n3)
theorem ok__law_key_planted (F : FunD K "_law_key_planted" "_law_key_planted" (defArgs s__law_key_planted) (defBody s__law_key_planted) (defScope s__law_key_planted) [] [] (glAd "_law_key_planted" K) fd) (m : mg "_law_key_planted" = some (.ref (glAd "_law_key_planted" K))) (nb : Nm K mg) (c__law_next : Cal P w K mg base 1 "_law_next" (sp__law_next K) []) (c__law_utf8 : Cal P w K mg base 1 "_law_utf8" (sp__law_utf8 K) []) (c__law_count_planted : Cal P w K mg base 2 "_law_count_planted" (sp__law_count_planted K) []) : Cal P w K mg base 3 "_law_key_planted" (sp__law_key_planted K) [] := by
  refine calD F m sc__law_key_planted (fun _ _ _ _ _ _ us hl => match us, hl with | [_, _], _ => rfl) len2 (fun cdv A outer s H vs Q E hr h => ⟨_, (pss_cons (ps_set (i := 2) sc__law_key_planted.nd rfl (Or.inl rfl) (pe_c c__law_utf8 hr (by decide) rfl (pa_cons (pv 1) pa_nil)))
    (pss_cons (ps_set (i := 3) sc__law_key_planted.nd rfl (Or.inl rfl) (pe_c c__law_next hr (by decide) rfl (pa_cons (pv 0) (pa_cons pe_int pa_nil))))
    (pss_cons (ps_set (i := 4) sc__law_key_planted.nd rfl (Or.inl rfl) (pe_c c__law_next hr (by decide) rfl (pa_cons (pv 0) (pa_cons (pe_op op_add (pe_callB call_len_seq (by rfl) nb.len PySem.boot_len (pa_cons (pv 2) pa_nil)) pe_int) pa_nil))))
    (pss_cut (ps_if (pt_cmpR op_eq (pv 3) pe_int (nomark _))
    (pss_one (ps_set (i := 2) sc__law_key_planted.nd rfl (Or.inl rfl) (pe_slice sl_list (pv 2) po_none (po_some (pv 4)))))
    (pss_one (ps_if (pt_cmpR op_eq (pv 3) pe_int (nomark _))
    (pss_one (ps_set (i := 2) sc__law_key_planted.nd rfl (Or.inl rfl) (pe_op op_cat (pe_op op_cat (pe_slice sl_list (pv 2) po_none (po_some (pv 4))) (pe_lstE (pa_cons (pe_ix ix_list (pe_lstE (pa_cons pe_int (pa_cons pe_int (pa_cons pe_int (pa_cons pe_int (pa_cons pe_int pa_nil)))))) (pe_c c__law_next hr (by decide) rfl (pa_cons (pv 0) (pa_cons pe_int pa_nil))) (fun _ _ => rfl)) pa_nil))) (pe_slice sl_list (pv 2) (po_some (pv 4)) po_none))))
    pss_nil)))
    (pss_one (ps_ret (pe_op op_cat (pe_c c__law_count_planted hr (by decide) rfl (pa_cons (pv 0) (pa_cons (pe_callB call_len_seq (by rfl) nb.len PySem.boot_len (pa_cons (pv 2) pa_nil)) pa_nil))) (pv 2)))))))), ?_⟩)
  obtain ⟨_, _, rfl, S, l, p, ps, rfl, rfl, hp, kp, L, h⟩ := h
  walk_at "rf"
  refine ⟨_, rfl, p, ps, rfl, hp, kp.1, fun q1 H1 n1 g1 s1 => ?_⟩
  have L1 := L.same s1
  have ne1 := L.ne_free n1
  have oe := encs_oct kp.2
  have le : (encs ps).length ≤ 800 := by
    have h1 := len_encs ps
    have h2 := kp.1
    omega
  generalize encs ps = es at g1 oe le
  walk_at "rf"
  refine b_next L1 (by decide) fun pick H2 a2 b2 L2 k2 => ?_
  have g2 := k2 _ _ ne1 g1
  walk_at "rf"
  refine ⟨q1, _, rfl, .inl (SqL.of g2), ?_⟩
  rw [List.length_map]
  walk_at "rf"
  refine b_next L2 (by omega) fun at_ H3 a3 b3 L3 k3 => ?_
  have g3 := k3 _ _ ne1 g2
  have k03 := (Keep.of (S := S) s1).trans (k2.trans k3)
  obtain ⟨at_, rfl⟩ := Int.eq_ofNat_of_zero_le a3
  clear g1 g2 L1 L2 k2 k3
  walk_at "rg"
  refine r_cut (fun σ H' => ∃ (p4 : Addr) (ys : List Int), H' p4 = some (.lst (ys.map V.int)) ∧ ys.length ≤ 801 ∧ Oct ys ∧ LB K S l H' ∧ Keep S H H' ∧ p4 ≠ S.a ∧ σ = [some (.ref S.a), some (.ref p), some (.ref p4), some (.int pick), some (.int (at_ : Nat))]) ?_ ?_
  · walk_at "rf"
    refine r_ite (fun c => ?_) (fun c => ?_)
    · walk_at "rf"
      try (refine ⟨_, rfl, ?_⟩; walk_at "rf")
      try (refine ⟨_, rfl, ?_⟩; walk_at "rf")
      refine r_slTo g3 fun p7 H7 ys m7 l7 f7 g7 s7 => ?_
      walk_at "rf"
      exact ⟨p7, ys, g7, by omega, oe.sub m7, L3.same s7, k03.trans (Keep.of s7), L3.ne_free f7, rfl⟩
    walk_at "rf"
    refine r_ite (fun c => ?_) (fun c => ?_)
    · walk_at "rf"
      try (refine ⟨_, rfl, ?_⟩; walk_at "rf")
      try (refine ⟨_, rfl, ?_⟩; walk_at "rf")
      refine r_slTo g3 fun p7 H7 ys m7 l7 f7 g7 s7 => ?_
      walk_at "rf"
      refine ⟨by show 5 ≤ sizeLine; decide, fun p8 H8 f8 g8 s8 => ?_⟩
      have g8 : H8 p8 = some (.lst (([128, 195, 237, 244, 255] : List Int).map V.int)) := g8
      have L8 := (L3.same s7).same s8
      have n8 := (L3.same s7).ne_free f8
      walk_at "rf"
      refine b_next L8 (by decide) fun j H9 j0 j1 L9 k9 => ?_
      have hj : j.toNat < ([128, 195, 237, 244, 255] : List Int).length := by show _ < 5; omega
      have ej : j = ((j.toNat : Nat) : Int) := by omega
      have mj : ∀ v ∈ ([128, 195, 237, 244, 255] : List Int), 0 ≤ v ∧ v ≤ 255 := by decide
      rw [ej]
      refine r_ixL (SqL.of (k9 _ _ n8 g8)) (atI_nat (v := V.int ([128, 195, 237, 244, 255] : List Int)[j.toNat]) (by rw [List.getElem?_map, List.getElem?_eq_getElem hj]; rfl)) ?_
      obtain ⟨c0, c1⟩ := mj _ (List.getElem_mem hj)
      generalize ([128, 195, 237, 244, 255] : List Int)[j.toNat] = o at c0 c1
      have n7 := L3.ne_free f7
      have g79 := k9 _ _ n7 (s8 _ _ g7)
      have k09 := k03.trans ((Keep.of (s7.trans s8)).trans k9)
      have g39 := k9 _ _ ne1 (s8 _ _ (s7 _ _ g3))
      walk_at "rf"
      refine ⟨by show 1 ≤ sizeLine; decide, fun p10 H10 f10 g10 s10 => ?_⟩
      walk_at "rf"
      refine r_catB (ys := [o]) (s10 _ _ g79) g10 (by show _ + 1 ≤ _; omega) fun p11 H11 f11 g11 s11 => ?_
      walk_at "rf"
      try (refine ⟨_, rfl, ?_⟩; walk_at "rf")
      try (refine ⟨_, rfl, ?_⟩; walk_at "rf")
      refine r_slFr ((s10.trans s11) _ _ g39) fun pa Ha zs ma la fa ga sa => ?_
      walk_at "rf"
      refine r_catB (sa _ _ g11) ga (by rw [List.length_append]; show _ + 1 + _ ≤ _; omega) fun pb Hb fb gb sb => ?_
      walk_at "rf"
      have L11 := ((L9.same s10).same s11).same sa
      exact ⟨pb, (ys ++ [o]) ++ zs, gb, (by rw [List.length_append, List.length_append]; show _ + 1 + _ ≤ _; omega), ((oe.sub m7).app (oct_one c0 c1)).app (oe.sub ma), L11.same sb, k09.trans (Keep.of (((s10.trans s11).trans sa).trans sb)), L11.ne_free fb, rfl⟩
    · walk_at "rf"
      exact ⟨q1, es, g3, by omega, oe, L3, k03, ne1, rfl⟩
  · rintro σ H4 ⟨p4, ys, g4, l4, o4, L4, k4, n4, rfl⟩
    walk_at "rf"
    refine ⟨p4, _, rfl, .inl (SqL.of g4), ?_⟩
    rw [List.length_map]
    walk_at "rf"
    refine ⟨_, _, rfl, S, l, ys.length, rfl, rfl, by omega, L4, fun p5 xs5 H5 g5 l5 o5 L5 k5 n5 => ?_⟩
    walk_at "rf"
    refine r_catB g5 (k5 _ _ n4 g4) (by omega) fun p6 H6 n6 g6 s6 => ?_
    exact h p6 _ H6 g6 (by rw [List.length_append]; omega) (o5.app o4) (L5.same s6) ((k4.trans k5).trans (Keep.of s6)) (L5.ne_free n6)
end

/-! ### planted: the whole -/
/-- something != () -/
def rNe0 (K : Frg) : R2 := fun x y H Q => ∃ d, Dp K H x d ∧ Dp K H y (.tuple []) ∧ d.canLay0 = true ∧ Q (.bl (!PyData.eqv d (.tuple []))) H
theorem op_ne0 {X : Cx} {k : Nat} (hr : Room k X.A) : OpR X (compareOp .NotEq) (rNe0 X.K) := by
  intro pins s σ H x y v u Q I rx ry h
  obtain ⟨d, hd, he, sd, q⟩ := h
  obtain ⟨as, r1⟩ := Dp.reads I d x v hd rx
  obtain ⟨bs, r2⟩ := Dp.reads I _ y u he ry
  have := hr.un
  refine SeqAt.compareNe_reads r1 r2 sd (by decide) (by have : (PyData.tuple []).depth = 1 := rfl; omega) ?_
  exact ⟨.bl _, H, I, rfl, q⟩
/-- a list of numbers, some times over -/
theorem r_repG {a : Addr} {xs : List Int} {k : Int} {H : Hp} {Q : VK} (h1 : H a = some (.lst (xs.map V.int))) (h0 : 0 ≤ k) (hk : k ≤ 1) (hl : xs.length ≤ 10) (h : ∀ p H' (ys : List Int), (∀ y ∈ ys, y ∈ xs) → ys.length ≤ 10 → H p = none → H' p = some (.lst (ys.map V.int)) → Same H H' → Q (.ref p) H') : rRep (.ref a) (.int k) H Q := by
  have hk2 : k = 0 ∨ k = 1 := by omega
  rcases hk2 with e | e <;> subst e
  · exact ⟨a, 0, _, rfl, rfl, h1, by decide, by decide, by show _ * 0 ≤ _; omega, fun p hp => h p _ [] (fun y hy => absurd hy (by simp)) (Nat.zero_le _) hp upd_same (same_upd hp _)⟩
  · refine ⟨a, 1, _, rfl, rfl, h1, by decide, by decide, ?_, fun p hp => h p _ xs (fun y hy => hy) hl hp (upd_same.trans ?_) (same_upd hp _)⟩
    · rw [List.length_map, sizeLine_eq]
      show _ * 1 ≤ _
      omega
    · simp
mutual
theorem short_lay : ∀ d : PyData, Short d → d.canLay0 = true
  | .bool _, _ => rfl
  | .int _, _ => rfl
  | .str _, h => h
  | .tuple ds, h => shortA_lay ds h.2
  | .none, h => h.elim
  | .list _, h => h.elim
  | .dict _, h => h.elim
theorem shortA_lay : ∀ ds : List PyData, Short.shortAll ds → PyData.canLayAll0 ds = true
  | [], _ => rfl
  | d :: ds, h => by
    show (d.canLay0 && PyData.canLayAll0 ds) = true
    rw [short_lay d h.1, shortA_lay ds h.2]
    rfl
end

def sp__law_planted (K : Frg) (n : Nat) : Sp := sp2 fun a b H Q _ => ∃ (S : SC) (l : Int) (t : Vl) (d : Nat), a = .ref S.a ∧ Tp H b t.dat ∧ t.bf d ∧ d < n ∧ LB K S l H ∧ vsz t ≤ 7000 ∧ PlT K S l H (2000 * vsz t) Q
theorem no__law_planted {K : Frg} {vs : List V} {H : Hp} {Q : VK} {E : XK} (h : sp__law_planted K 0 vs H Q E) : False := by
  obtain ⟨_, _, rfl, S, l, t, d, _, _, _, h, _⟩ := h
  exact absurd h (Nat.not_lt_zero _)
theorem vszL_step {xs : List Vl} {i : Nat} {x : Vl} (h : xs[i]? = some x) : vszL (xs.take (i + 1)) = vszL (xs.take i) + vsz x := by
  rw [List.take_succ, h, vszL_app]
  rfl
theorem vszM_step {xs : List (List Int × Vl)} {i : Nat} {x : List Int × Vl} (h : xs[i]? = some x) : vszM (xs.take (i + 1)) = vszM (xs.take i) + (1 + vsz x.2) := by
  rw [List.take_succ, h, vszM_sum, vszM_sum]
  simp
  omega
section
variable {P : Program} {w : World} {K : PySem.W.Frag} {mg : Str → Option Value} {base : Heap} {f : Addr} {fd : FuncData}
theorem ok__law_planted (n : Nat) (F : FunD K "_law_planted" "_law_planted" (defArgs s__law_planted) (defBody s__law_planted) (defScope s__law_planted) [] [] (glAd "_law_planted" K) fd) (m : mg "_law_planted" = some (.ref (glAd "_law_planted" K))) (nb : Nm K mg) (c__law_next : Cal P w K mg base 1 "_law_next" (sp__law_next K) []) (c__law_mixed : Cal P w K mg base 2 "_law_mixed" (sp__law_mixed K) []) (c__law_leaf_planted : Cal P w K mg base 3 "_law_leaf_planted" (sp__law_leaf_planted K) []) (c__law_key_planted : Cal P w K mg base 3 "_law_key_planted" (sp__law_key_planted K) []) (c__law_planted : Cal P w K mg base (4 + n) "_law_planted" (sp__law_planted K n) []) : Cal P w K mg base (4 + n + 1) "_law_planted" (sp__law_planted K (n + 1)) [] := by
  refine calD F m sc__law_planted (fun _ _ _ _ _ _ us hl => match us, hl with | [_, _], _ => rfl) len2 (fun cdv A outer s H vs Q E hr h => ⟨_, (pss_cons (ps_if (pt_cmpR op_eq (pe_ix ix_tup (pv 1) pe_int (fun _ _ => rfl)) pe_str (nomark _))
    (pss_cons (ps_set (i := 2) sc__law_planted.nd rfl (Or.inl rfl) (pe_lstE (pa_cons pe_int pa_nil)))
    (pss_cons (ps_for PassesOwn.never rfl (pi_tup (pe_ix ix_tup (pv 1) pe_int (fun _ _ => rfl))) (pg_name (i := 3) sc__law_planted.nd rfl (Or.inl rfl))
    (pss_one (ps_set (i := 2) sc__law_planted.nd rfl (Or.inl rfl) (pe_op op_cat (pv 2) (pe_c c__law_planted hr (by omega) rfl (pa_cons (pv 0) (pa_cons (pv 3) pa_nil)))))))
    (pss_one (ps_ret (pe_op op_cat (pv 2) (pe_op op_rep (pe_lstE (pa_cons pe_int pa_nil)) (pe_callTy call_int1 (by rfl) nb.int (by decide +kernel) (pa_cons (pe_cmpR op_ne (pe_c c__law_next hr (by omega) rfl (pa_cons (pv 0) (pa_cons pe_int pa_nil))) pe_int (nomark _)) pa_nil))))))))
    pss_nil)
    (pss_cons (ps_if (pt_cmpR op_eq (pe_ix ix_tup (pv 1) pe_int (fun _ _ => rfl)) pe_str (nomark _))
    (pss_cons (ps_set (i := 2) sc__law_planted.nd rfl (Or.inl rfl) (pe_lstE (pa_cons pe_int pa_nil)))
    (pss_cons (ps_for PassesOwn.never rfl (pi_list (pe_c c__law_mixed hr (by omega) rfl (pa_cons (pv 0) (pa_cons (pe_ix ix_tup (pv 1) pe_int (fun _ _ => rfl)) pa_nil)))) (pg_tup rfl (pgs_cons (pg_name (i := 4) sc__law_planted.nd rfl (Or.inl rfl)) (pgs_cons (pg_name (i := 3) sc__law_planted.nd rfl (Or.inl rfl)) pgs_nil)))
    (pss_one (ps_set (i := 2) sc__law_planted.nd rfl (Or.inl rfl) (pe_op op_cat (pe_op op_cat (pv 2) (pe_c c__law_key_planted hr (by omega) rfl (pa_cons (pv 0) (pa_cons (pv 4) pa_nil)))) (pe_c c__law_planted hr (by omega) rfl (pa_cons (pv 0) (pa_cons (pv 3) pa_nil)))))))
    (pss_cut (ps_if (PW.pt (pw_and (pt_cmpR (op_ne0 hr) (pe_ix ix_tup (pv 1) pe_int (fun _ _ => rfl)) (pe_tupE pa_nil) (nomark _)) (pw_and1 (pt_cmpR op_eq (pe_c c__law_next hr (by omega) rfl (pa_cons (pv 0) (pa_cons pe_int pa_nil))) pe_int (nomark _)))))
    (pss_cons (ps_set (i := 4) sc__law_planted.nd rfl (Or.inl rfl) (pe_ix ix_tup (pe_ix ix_tup (pe_ix ix_tup (pv 1) pe_int (fun _ _ => rfl)) (pe_c c__law_next hr (by omega) rfl (pa_cons (pv 0) (pa_cons (pe_callB call_len_seq (by rfl) nb.len PySem.boot_len (pa_cons (pe_ix ix_tup (pv 1) pe_int (fun _ _ => rfl)) pa_nil)) pa_nil))) (fun _ _ => rfl)) pe_int (fun _ _ => rfl)))
    (pss_one (ps_set (i := 2) sc__law_planted.nd rfl (Or.inl rfl) (pe_op op_cat (pe_op op_cat (pv 2) (pe_c c__law_key_planted hr (by omega) rfl (pa_cons (pv 0) (pa_cons (pv 4) pa_nil)))) (pe_op op_rep (pe_lstE (pa_cons pe_int (pa_cons pe_int pa_nil))) (pe_c c__law_next hr (by omega) rfl (pa_cons (pv 0) (pa_cons pe_int pa_nil))))))))
    pss_nil)
    (pss_one (ps_ret (pe_op op_cat (pv 2) (pe_lstE (pa_cons pe_int pa_nil))))))))
    pss_nil)
    (pss_one (ps_ret (pe_c c__law_leaf_planted hr (by omega) rfl (pa_cons (pv 0) (pa_cons (pv 1) pa_nil))))))), ?_⟩)
  obtain ⟨_, _, rfl, S, l, t, d, rfl, tp, bf, hd, L, hs, h⟩ := h
  cases t with
  | lf k r =>
    obtain ⟨a, xs, rfl, ha, hx⟩ := tp_tup tp
    have lb : Lb k r := by cases d <;> exact bf
    have hk : xs[0]? = some (.str k) := by
      cases hx with
      | cons h1 h2 =>
        cases h1
        rfl
    have kind : k ≠ "list" ∧ k ≠ "map" := by
      cases lb with
      | number m e _ _ => exact ⟨by decide +kernel, by decide +kernel⟩
      | bytes os _ => exact ⟨by decide +kernel, by decide +kernel⟩
    walk_at "rf"
    refine r_ixT (SqT.of ha) (atI_nat (j := 0) hk) ?_
    walk_at "rf"
    refine r_iteN kind.1 ?_
    walk_at "rf"
    refine r_ixT (SqT.of ha) (atI_nat (j := 0) hk) ?_
    walk_at "rf"
    refine r_iteN kind.2 ?_
    walk_at "rf"
    refine ⟨_, _, rfl, S, l, k, r, rfl, tp, lb, L, fun p ys H1 g1 l1 o1 L1 k1 n1 => ?_⟩
    exact h p ys H1 g1 (by show _ ≤ 2000 * 1; omega) o1 L1 k1 n1
  | ls xs =>
    obtain ⟨d, rfl⟩ : ∃ d', d = d' + 1 := by
      cases d with
      | zero => exact (show False from bf).elim
      | succ d => exact ⟨d, rfl⟩
    have bf : xs.length ≤ 49 ∧ bfL d xs := bf
    obtain ⟨a, zs, rfl, ha, hx⟩ := tp_tup tp
    obtain ⟨b, ws, rfl, hb, hw⟩ : ∃ b ws, zs = [.str "list", .ref b] ∧ H b = some (.tup ws) ∧ TpAll H ws (datL xs) := by
      cases hx with
      | cons h1 h2 =>
      cases h1
      cases h2 with
      | cons h1 h2 =>
      cases h2
      obtain ⟨b, ws, rfl, hb, hw⟩ := tp_tup h1
      exact ⟨b, ws, rfl, hb, hw⟩
    have hwl : ws.length = xs.length := by rw [tpAll_len hw, datL_map, List.length_map]
    have hs : 1 + vszL xs ≤ 7000 := hs
    walk_at "rf"
    refine r_ixT (SqT.of ha) (atI_nat (j := 0) rfl) ?_
    walk_at "rf"
    refine r_ite (fun _ => ?_) (fun c => absurd rfl c)
    walk_at "rf"
    refine ⟨by show 1 ≤ sizeLine; decide, fun p1 H1 n1 g1 s1 => ?_⟩
    have g1 : H1 p1 = some (.lst (([108] : List Int).map V.int)) := g1
    have L1 := L.same s1
    walk_at "rf"
    refine r_ixT (SqT.of (s1 _ _ ha)) (atI_nat (j := 1) rfl) ?_
    walk_at "rf"
    refine ⟨b, rfl, ⟨ws, SqT.of (s1 _ _ hb)⟩, ?_⟩
    refine r_eachT (xs := ws) (fun i σ H' => LB K S l H' ∧ Keep S H H' ∧ ∃ (p : Addr) (os : List Int) (y3 y4 : Option V), p ≠ S.a ∧ H' p = some (.lst (os.map V.int)) ∧ os.length ≤ 1 + 2000 * vszL (xs.take i) ∧ Oct os ∧ σ = [some (.ref S.a), some (.ref a), some (.ref p), y3, y4]) ⟨L1, Keep.of s1, p1, [108], _, _, L.ne_free n1, g1, by simp [vszL], oct_one (by decide) (by decide), rfl⟩ (fun i σ H' hh => by
      obtain ⟨_, k, _⟩ := hh
      exact SqT.of (keep_tk L.ls k _ _ hb)) ?_ ?_
    · rintro i x σ H5 hx ⟨L5, k5, p, os, y3, y4, ps, g5, l5, o5, rfl⟩
      have hi : i < ws.length := (List.getElem?_eq_some_iff.mp hx).1
      have hx2 : xs[i]? = some xs[i] := List.getElem?_eq_getElem (by omega)
      have tk5 := keep_tk L.ls k5
      obtain ⟨dd, e1, e2⟩ := tpAll_get hw hx
      have tx : Tp H x (xs[i]).dat := by
        rw [datL_map, List.getElem?_map, hx2] at e1
        cases e1
        exact e2
      have hm : xs[i] ∈ xs := List.getElem_mem _
      have st := vszL_step hx2
      have tk := vszL_take xs (i + 1)
      walk_at "rf"
      refine ⟨_, _, rfl, S, l, xs[i], d, rfl, Tp.tk tk5 _ _ tx, bfL_mem bf.2 _ hm, by omega, L5, by have := vszL_mem hm; omega, fun p6 os6 H6 g6 l6 o6 L6 k6 n6 => ?_⟩
      refine r_catB (k6 _ _ ps g5) g6 (by omega) fun p7 H7 n7 g7 s7 => ?_
      walk_at "rf"
      exact ⟨L6.same s7, (k5.trans k6).trans (Keep.of s7), p7, os ++ os6, _, _, L6.ne_free n7, g7, by rw [List.length_append, st]; omega, o5.app o6, rfl⟩
    · rintro σ H5 ⟨L5, k5, p, os, y3, y4, ps, g5, l5, o5, rfl⟩
      rw [hwl, List.take_length] at l5
      walk_at "rf"
      refine ⟨by show 1 ≤ sizeLine; decide, fun q1 I1 m1 e1 t1 => ?_⟩
      have e1 : I1 q1 = some (.lst (([101] : List Int).map V.int)) := e1
      have M1 := L5.same t1
      have m1s := L5.ne_free m1
      walk_at "rf"
      refine b_next M1 (by decide) fun r H6 r0 r1 L6 k6 => ?_
      walk_at "rf"
      have g6 := k6 _ _ ps (t1 _ _ g5)
      refine .inr ⟨_, rfl, ?_⟩
      refine r_repG (k6 _ _ m1s e1) ?_ ?_ (by decide) fun p7 H7 ys hy ly n7 g7 s7 => ?_
      · split <;> decide
      · split <;> decide
      refine r_catB (s7 _ _ g6) g7 (by omega) fun p8 H8 n8 g8 s8 => ?_
      have L7 := L6.same s7
      exact h p8 _ H8 g8 (by rw [List.length_append]; show _ ≤ 2000 * (1 + vszL xs); omega) (o5.app ((oct_one (by decide) (by decide)).sub hy)) (L7.same s8) (k5.trans ((Keep.of t1).trans (k6.trans (Keep.of (s7.trans s8))))) (L7.ne_free n8)
  | mp es =>
    obtain ⟨d, rfl⟩ : ∃ d', d = d' + 1 := by
      cases d with
      | zero => exact (show False from bf).elim
      | succ d => exact ⟨d, rfl⟩
    have sht := (bw_short _ _ (bf_bw _ _ bf)).1
    have bf : es.length ≤ 49 ∧ (es.map (·.1)).Pairwise (fun x y => HT.lexLt x y = true) ∧ (∀ e ∈ es, Kp e.1) ∧ bfM d es := bf
    obtain ⟨a, zs, rfl, ha, hx⟩ := tp_tup tp
    obtain ⟨b, ws, rfl, hb, hw⟩ : ∃ b ws, zs = [.str "map", .ref b] ∧ H b = some (.tup ws) ∧ TpAll H ws (datM es) := by
      cases hx with
      | cons h1 h2 =>
      cases h1
      cases h2 with
      | cons h1 h2 =>
      cases h2
      obtain ⟨b, ws, rfl, hb, hw⟩ := tp_tup h1
      exact ⟨b, ws, rfl, hb, hw⟩
    have hwl : ws.length = es.length := by rw [tpAll_len hw, datM_map, List.length_map]
    have hs : 1 + vszM es ≤ 7000 := hs
    walk_at "rf"
    refine r_ixT (SqT.of ha) (atI_nat (j := 0) rfl) ?_
    walk_at "rf"
    refine r_iteN (show ¬ ("map" : Str) = "list" by decide +kernel) ?_
    walk_at "rf"
    refine r_ixT (SqT.of ha) (atI_nat (j := 0) rfl) ?_
    walk_at "rf"
    refine r_ite (fun _ => ?_) (fun c => absurd rfl c)
    walk_at "rf"
    refine ⟨by show 1 ≤ sizeLine; decide, fun p1 H1 n1 g1 s1 => ?_⟩
    have g1 : H1 p1 = some (.lst (([100] : List Int).map V.int)) := g1
    have L1 := L.same s1
    walk_at "rf"
    refine r_ixT (SqT.of (s1 _ _ ha)) (atI_nat (j := 1) rfl) ?_
    walk_at "rf"
    refine ⟨_, _, rfl, S, l, b, ws, rfl, rfl, s1 _ _ hb, by omega, L1, fun q ys H5 pm nq nqs gq L5 k45 => ?_⟩
    have k5 := (Keep.of (S := S) s1).trans k45
    obtain ⟨zs, pz, rfl⟩ := perm_up (fun z : V × (List Int × Vl) => z.1) (out := ys) (l := ws.zip es) (by rw [List.map_fst_zip (by omega)]; exact pm)
    have pes : (zs.map (·.2)).Perm es := by
      have := pz.map (·.2)
      rwa [List.map_snd_zip (by omega)] at this
    have hz : ∀ z ∈ zs, z.2 ∈ es ∧ ∃ T kb u, z.1 = .ref T ∧ H T = some (.tup [.ref kb, u]) ∧ H kb = some (.tup (z.2.1.map V.int)) ∧ Tp H u z.2.2.dat := fun z hz => by
      have hz := pz.mem_iff.mp hz
      obtain ⟨j, hj, ej⟩ := List.getElem_of_mem hz
      rw [List.getElem_zip] at ej
      have h1 : ws[j]? = some z.1 := by
        rw [List.getElem?_eq_getElem (by rw [List.length_zip] at hj; omega), ← ej]
      have h2 : es[j]? = some z.2 := by
        rw [List.getElem?_eq_getElem (by rw [List.length_zip] at hj; omega), ← ej]
      obtain ⟨dd, e1, e2⟩ := tpAll_get hw h1
      rw [datM_map, List.getElem?_map, h2] at e1
      cases e1
      obtain ⟨T, ys, eT, hT, hys⟩ := tp_tup e2
      cases hys with
      | cons x1 x2 =>
      obtain ⟨kb, rfl, hkb⟩ := tp_kdB x1
      cases x2 with
      | cons x2 x3 =>
      cases x3
      exact ⟨List.mem_of_getElem? h2, T, kb, _, eT, hT, hkb, x2⟩
    have zl : zs.length = es.length := by
      have := pes.length_eq
      simpa using this
    walk_at "rf"
    refine ⟨q, rfl, ⟨_, SqL.of gq⟩, ?_⟩
    refine r_eachL (xs := zs.map fun z => z.1) (fun i σ H' => LB K S l H' ∧ Keep S H H' ∧ H' q = some (.lst (zs.map fun z => z.1)) ∧ ∃ (p : Addr) (os : List Int) (y3 y4 : Option V), p ≠ S.a ∧ H' p = some (.lst (os.map V.int)) ∧ os.length ≤ 1 + 1000 * vszM ((zs.take i).map (·.2)) + 1000 * vszM ((zs.take i).map (·.2)) ∧ Oct os ∧ σ = [some (.ref S.a), some (.ref a), some (.ref p), y3, y4])
      ⟨L5, k5, gq, p1, [100], _, _, L.ne_free n1, k45 _ _ (L.ne_free n1) g1, by simp [vszM], oct_one (by decide) (by decide), rfl⟩ (fun i σ H' hh => SqL.of hh.2.2.1) ?_ ?_
    · rintro i x σ H6 hx ⟨L6, k6, gq6, p, os, y3, y4, ps, g6, l6, o6, rfl⟩
      obtain ⟨z, hzi, rfl, et⟩ := map_get hx
      have hzm := List.mem_of_getElem? hzi
      obtain ⟨hze, T, kb, u, eT, hT, hkb, hu⟩ := hz z hzm
      have tk6 := keep_tk L.ls k6
      have kp := bf.2.2.1 _ hze
      have bz := bfM_mem bf.2.2.2 _ hze
      have sz := vszM_mem hze
      have st : vszM ((zs.take (i + 1)).map (·.2)) = vszM ((zs.take i).map (·.2)) + (1 + vsz z.2.2) := by
        rw [List.map_take, List.map_take]
        exact vszM_step (by rw [List.getElem?_map, hzi]; rfl)
      have tk : vszM ((zs.take (i + 1)).map (·.2)) ≤ vszM es := by
        have q2 := vszM_take (zs.map (·.2)) (i + 1)
        rw [← List.map_take, vszM_perm pes] at q2
        exact q2
      rw [eT]
      refine r_gtup (SqT.of (tk6 _ _ hT)) rfl ?_
      walk_at "rf"
      refine ⟨_, _, rfl, S, l, kb, z.2.1, rfl, rfl, tk6 _ _ hkb, kp, L6, fun p7 os7 H7 g7 l7 o7 L7 k7 n7 => ?_⟩
      refine r_catB (k7 _ _ ps g6) g7 (by omega) fun p8 H8 n8 g8 s8 => ?_
      have L8 := L7.same s8
      have k8 := k7.trans (Keep.of (S := S) s8)
      have nn8 := L7.ne_free n8
      walk_at "rf"
      refine ⟨_, _, rfl, S, l, z.2.2, d, rfl, Tp.tk (keep_tk L.ls (k6.trans k8)) _ _ hu, bz, by omega, L8, by omega, fun p9 os9 H9 g9 l9 o9 L9 k9 n9 => ?_⟩
      refine r_catB (k9 _ _ nn8 g8) g9 (by rw [List.length_append]; omega) fun p10 H10 n10 g10 s10 => ?_
      walk_at "rf"
      exact ⟨L9.same s10, (k6.trans k8).trans (k9.trans (Keep.of s10)), s10 _ _ (k9 _ _ nqs (k8 _ _ nqs gq6)), p10, _, _, _, L9.ne_free n10, g10, by rw [List.length_append, List.length_append, st]; omega, (o6.app o7).app o9, rfl⟩
    · rintro σ H6 ⟨L6, k6, gq6, p, os, y3, y4, ps, g6, l6, o6, rfl⟩
      rw [List.length_map, List.take_length, vszM_perm pes] at l6
      walk_at "rg"
      refine r_cut (fun σ H' => ∃ (p : Addr) (os : List Int) (y3 y4 : Option V), p ≠ S.a ∧ H' p = some (.lst (os.map V.int)) ∧ os.length ≤ 1001 + 2000 * vszM es ∧ Oct os ∧ LB K S l H' ∧ Keep S H H' ∧ σ = [some (.ref S.a), some (.ref a), some (.ref p), y3, y4]) ?_ ?_
      · have tk6 := keep_tk L.ls k6
        walk_at "rf"
        refine r_ixT (SqT.of (tk6 _ _ ha)) (atI_nat (j := 1) rfl) ?_
        walk_at "rf"
        refine ⟨by show 0 ≤ sizeLine; decide, fun q1 H7 n7 g7 s7 => ?_⟩
        have L7 := L6.same s7
        have k7 := k6.trans (Keep.of (S := S) s7)
        have tk7 := keep_tk L.ls k7
        have g67 := s7 _ _ g6
        refine ⟨.tuple (datM es), .tup (SqT.of (tk7 _ _ hb)) (TpAll.dp _ _ (TpAll.tk tk7 _ _ hw)), .tup (SqT.of g7) .nil, shortA_lay _ sht.2.2.1.2, ?_⟩
        have ne : (!PyData.eqv (.tuple (datM es)) (.tuple [])) = true → es ≠ [] := fun e z => by
          rw [z, show datM [] = [] from rfl, SeqAt.eqv_refl _ (by decide)] at e
          cases e
        generalize (!PyData.eqv (.tuple (datM es)) (.tuple [])) = bb at ne
        walk_at "rf"
        have fin : ∀ H', LB K S l H' → Keep S H7 H' → ∃ (p2 : Addr) (os2 : List Int) (z3 z4 : Option V), p2 ≠ S.a ∧ H' p2 = some (.lst (os2.map V.int)) ∧ os2.length ≤ 1001 + 2000 * vszM es ∧ Oct os2 ∧ LB K S l H' ∧ Keep S H H' ∧ [some (V.ref S.a), some (.ref a), some (.ref p), y3, y4] = [some (V.ref S.a), some (.ref a), some (.ref p2), z3, z4] := fun H' L' k' => ⟨p, os, y3, y4, ps, k' _ _ ps g67, by omega, o6, L', k7.trans k', rfl⟩
        cases bb with
        | false =>
          walk_at "rf"
          exact fin _ L7 (Keep.refl _ _)
        | true =>
          have ne := ne rfl
          have el : 0 < es.length := List.length_pos_iff.mpr ne
          walk_at "rf"
          refine b_next L7 (by decide) fun r H8 r0 r1 L8 k8 => ?_
          walk_at "rf"
          refine r_ite (fun c => ?_) (fun c => ?_)
          · have tk8 := keep_tk L.ls (k7.trans k8)
            walk_at "rf"
            refine r_ixT (SqT.of (tk8 _ _ ha)) (atI_nat (j := 1) rfl) ?_
            walk_at "rf"
            refine r_ixT (SqT.of (tk8 _ _ ha)) (atI_nat (j := 1) rfl) ?_
            walk_at "rf"
            refine ⟨b, _, rfl, .inr (SqT.of (tk8 _ _ hb)), ?_⟩
            rw [hwl]
            walk_at "rf"
            refine b_next L8 (by omega) fun j H9 j0 j1 L9 k9 => ?_
            have k79 := k7.trans (k8.trans k9)
            have tk9 := keep_tk L.ls k79
            have hj : j.toNat < ws.length := by omega
            have ej : j = ((j.toNat : Nat) : Int) := by omega
            obtain ⟨dd, e1, e2⟩ := tpAll_get hw (List.getElem?_eq_getElem hj)
            have hj2 : es[j.toNat]? = some es[j.toNat] := List.getElem?_eq_getElem (by omega)
            rw [datM_map, List.getElem?_map, hj2] at e1
            cases e1
            obtain ⟨T, ys, eT, hT, hys⟩ := tp_tup e2
            obtain ⟨kb, hkb, hkp⟩ : ∃ kb, ys[0]? = some (.ref kb) ∧ H kb = some (.tup (es[j.toNat].1.map V.int)) := by
              cases hys with
              | cons x1 x2 =>
              obtain ⟨kb, rfl, hkb⟩ := tp_kdB x1
              exact ⟨kb, rfl, hkb⟩
            have kp := bf.2.2.1 es[j.toNat] (List.getElem_mem _)
            rw [ej]
            refine r_ixT (SqT.of (tk9 _ _ hb)) (atI_nat (List.getElem?_eq_getElem hj)) ?_
            rw [eT]
            walk_at "rf"
            refine r_ixT (SqT.of (tk9 _ _ hT)) (atI_nat (j := 0) hkb) ?_
            walk_at "rf"
            refine ⟨_, _, rfl, S, l, kb, _, rfl, rfl, tk9 _ _ hkp, kp, L9, fun p10 os10 H10 g10 l10 o10 L10 k10 n10 => ?_⟩
            have g9 := (k8.trans k9) _ _ ps g67
            refine r_catB (k10 _ _ ps g9) g10 (by omega) fun p11 H11 n11 g11 s11 => ?_
            have L11 := L10.same s11
            have n11s := L10.ne_free n11
            walk_at "rf"
            refine ⟨by show 2 ≤ sizeLine; decide, fun p12 H12 n12 g12 s12 => ?_⟩
            have g12 : H12 p12 = some (.lst (([48, 58] : List Int).map V.int)) := g12
            have L12 := L11.same s12
            have n12s := L11.ne_free n12
            walk_at "rf"
            refine b_next L12 (by decide) fun r13 H13 r0 r1 L13 k13 => ?_
            refine r_repG (k13 _ _ n12s g12) (by omega) (by omega) (by decide) fun p14 H14 ys14 hy ly n14 g14 s14 => ?_
            refine r_catB (s14 _ _ (k13 _ _ n11s (s12 _ _ g11))) g14 (by rw [List.length_append]; omega) fun p15 H15 n15 g15 s15 => ?_
            have L14 := L13.same s14
            have o14 : Oct ([48, 58] : List Int) := (oct_one (o := 48) (by decide) (by decide)).app (oct_one (o := 58) (by decide) (by decide))
            walk_at "rf"
            exact ⟨p15, _, _, _, L14.ne_free n15, g15, by rw [List.length_append, List.length_append]; omega, (o6.app o10).app (o14.sub hy), L14.same s15, k79.trans (k10.trans ((Keep.of (s11.trans s12)).trans (k13.trans (Keep.of (s14.trans s15))))), rfl⟩
          · walk_at "rf"
            exact fin _ L8 k8
      · rintro σ H7 ⟨p7, os7, y3, y4, ps7, g7, l7, o7, L7, k7, rfl⟩
        walk_at "rf"
        refine ⟨by show 1 ≤ sizeLine; decide, fun q1 I1 m1 e1 t1 => ?_⟩
        have e1 : I1 q1 = some (.lst (([101] : List Int).map V.int)) := e1
        walk_at "rf"
        refine r_catB (t1 _ _ g7) e1 (by show _ + 1 ≤ _; omega) fun p8 H8 n8 g8 s8 => ?_
        have M1 := L7.same t1
        exact h p8 _ H8 g8 (by rw [List.length_append]; show _ + 1 ≤ 2000 * (1 + vszM es); omega) (o7.app (oct_one (by decide) (by decide))) (M1.same s8) (k7.trans (Keep.of (t1.trans s8))) (M1.ne_free n8)
end
theorem rec__law_planted (F : FunD K "_law_planted" "_law_planted" (defArgs s__law_planted) (defBody s__law_planted) (defScope s__law_planted) [] [] (glAd "_law_planted" K) fd) (m : mg "_law_planted" = some (.ref (glAd "_law_planted" K))) (nb : Nm K mg) (c__law_next : Cal P w K mg base 1 "_law_next" (sp__law_next K) []) (c__law_mixed : Cal P w K mg base 2 "_law_mixed" (sp__law_mixed K) []) (c__law_leaf_planted : Cal P w K mg base 3 "_law_leaf_planted" (sp__law_leaf_planted K) []) (c__law_key_planted : Cal P w K mg base 3 "_law_key_planted" (sp__law_key_planted K) []) : ∀ n, Cal P w K mg base (4 + n) "_law_planted" (sp__law_planted K n) []
  | 0 => calD (k := 3) F m sc__law_planted (fun _ _ _ _ _ _ us hl => match us, hl with | [_, _], _ => rfl) (fun _ _ _ _ h => (no__law_planted h).elim) (fun _ _ _ _ _ _ _ _ _ h => (no__law_planted h).elim)
  | n + 1 => ok__law_planted n F m nb c__law_next c__law_mixed c__law_leaf_planted c__law_key_planted (rec__law_planted F m nb c__law_next c__law_mixed c__law_leaf_planted c__law_key_planted n)

/-! ### the machine over a whole text, place by place -/
/-- behind i octets of os the machine stands at s, the builder at b -/
def RdA (os : List Int) (i : Nat) (s : Sc) (b : Bs) : Prop := rdGo rd0 (os.take i) = .inr (s, b) ∧ s.pl = i
theorem RdA.step {os : List Int} {i : Nat} {s : Sc} {b : Bs} {o : Int} {es : List Ev} {s' : Sc} (h : RdA os i s b) (ho : os[i]? = some o) (a : scTake s o = (true, es, s')) (b' : Bs) (eb : b' = b.run es) (s2 : Sc) (e2 : s2 = { s' with pl := i + 1 }) : RdA os (i + 1) s2 b' := by
  subst eb e2
  have hn : scNext s o = some (es, { s' with pl := s'.pl + 1 }) := by
    unfold scNext
    rw [a]
    rfl
  have e : s'.pl = i := by
    have := scTake_pl s o
    rw [a] at this
    exact this.trans h.2
  have q := rd_step h.1 ho hn
  rw [e] at q
  exact ⟨q, rfl⟩
theorem RdA.stop {os : List Int} {i : Nat} {s : Sc} {b : Bs} {o : Int} (h : RdA os i s b) (ho : os[i]? = some o) (a : (scTake s o).1 = false) : rdAll os = .inl i := by
  have hn : scNext s o = none := by
    unfold scNext
    rw [a]
    rfl
  rw [rd_stop h.1 ho hn, h.2]
theorem RdA.over {os : List Int} {s : Sc} {b : Bs} {i : Nat} (h : RdA os i s b) (hi : i = os.length) (w : s.wt ≠ "nothing") : rdAll os = .inl i := by
  obtain ⟨h, p⟩ := h
  rw [hi, List.take_length] at h
  unfold rdAll
  rw [h]
  show (if s.wt = "nothing" then Sum.inr _ else Sum.inl s.pl) = _
  rw [if_neg w, p]
theorem RdA.done {os : List Int} {s : Sc} {b : Bs} {i : Nat} {t : Vl} (h : RdA os i s b) (hi : i = os.length) (w : s.wt = "nothing") (hv : b.val = some t) : rdAll os = .inr t := by
  obtain ⟨h, p⟩ := h
  rw [hi, List.take_length] at h
  unfold rdAll
  rw [h]
  show (if s.wt = "nothing" then Sum.inr (b.val.getD (.ls [])) else Sum.inl s.pl) = _
  rw [if_pos w, hv]
  rfl
theorem scTake_go {s : Sc} {o : Int} (h : s.tk ≠ .no) : scTake s o = scGo s o := by
  unfold scTake
  split
  · rename_i e
    exact absurd e h
  · rfl
  · rfl
  · rfl
theorem scTake_mark {s : Sc} {o : Int} (h : s.tk = .no) : scTake s o = scMark s o := by
  unfold scTake
  rw [h]
/-! ### digits of a count -/
def Dgp (os : List Int) (at_ j : Nat) : Prop := (∀ i, i < j → ∃ o, os[at_ + i]? = some o ∧ isDg o = true) ∧ (2 ≤ j → os[at_]? ≠ some 48)
/-- so many digits stand at this place, no more can be taken -/
def Dgs (os : List Int) (at_ j : Nat) : Prop := at_ + j ≤ os.length ∧ Dgp os at_ j ∧ (at_ + j = os.length ∨ ∃ o, os[at_ + j]? = some o ∧ (isDg o = false ∨ (j = 1 ∧ os[at_]? = some 48)))
def cvf (w : Int) (ds : List Int) : Int := ds.foldl (fun w o => w * 10 + (o - 48)) w
/-- their worth -/
def cv (os : List Int) (at_ j : Nat) : Int := cvf 0 ((os.drop at_).take j)
theorem drop_get (os : List Int) (a i : Nat) : (os.drop a)[i]? = os[a + i]? := List.getElem?_drop
theorem cv_zero (os : List Int) (a : Nat) : cv os a 0 = 0 := by
  unfold cv
  rw [List.take_zero]
  rfl
theorem cv_succ {os : List Int} {a j : Nat} {o : Int} (h : os[a + j]? = some o) : cv os a (j + 1) = cv os a j * 10 + (o - 48) := by
  unfold cv
  rw [List.take_succ, drop_get, h]
  unfold cvf
  rw [List.foldl_append]
  rfl
theorem dg_rng {o : Int} (h : isDg o = true) : 48 ≤ o ∧ o ≤ 57 := by
  unfold isDg at h
  simp only [Bool.and_eq_true, decide_eq_true_eq] at h
  exact h
theorem dgp_le {os : List Int} {a i j : Nat} (h : Dgp os a j) (l : i ≤ j) : Dgp os a i := ⟨fun k hk => h.1 k (by omega), fun z => h.2 (by omega)⟩
theorem cv_nn {os : List Int} {a : Nat} : ∀ {j : Nat}, Dgp os a j → 0 ≤ cv os a j
  | 0, _ => by rw [cv_zero]; exact Int.le_refl _
  | j + 1, h => by
    obtain ⟨o, ho, d⟩ := h.1 j (by omega)
    obtain ⟨d1, d2⟩ := dg_rng d
    have := cv_nn (dgp_le h (Nat.le_succ j))
    rw [cv_succ ho]
    omega
theorem cv_pos {os : List Int} {a : Nat} : ∀ {j : Nat}, Dgp os a j → 1 ≤ j → os[a]? ≠ some 48 → 0 < cv os a j
  | 0, _, z, _ => absurd z (by decide)
  | 1, h, _, n => by
    obtain ⟨o, ho, d⟩ := h.1 0 (by decide)
    obtain ⟨d1, d2⟩ := dg_rng d
    rw [cv_succ ho, cv_zero]
    have : o ≠ 48 := fun e => n (by rw [← e]; exact ho)
    omega
  | j + 2, h, _, n => by
    obtain ⟨o, ho, d⟩ := h.1 (j + 1) (by omega)
    obtain ⟨d1, d2⟩ := dg_rng d
    have := cv_pos (dgp_le h (Nat.le_succ (j + 1))) (by omega) n
    rw [cv_succ ho]
    omega
theorem cv_one {os : List Int} {a : Nat} (h : os[a]? = some 48) : cv os a 1 = 0 := by
  rw [cv_succ (j := 0) h, cv_zero]
  decide
/-! ### tokens that begin with a count -/
structure MkOk (mk : Ct → Tok) : Prop where
  no : ∀ c, mk c ≠ .no
  fst : ∀ c o, c.b = false → (tokTake (mk c) o).1 = (ctTake c o).1
  snd : ∀ c o, c.b = false → (ctTake c o).1 = true → (tokTake (mk c) o).2 = mk (ctTake c o).2
  dn : ∀ c, tokDone (mk c) = c.d
def keyT (c : Ct) : Tok := .key ⟨c.d, c, u80⟩
theorem mk_cnt : MkOk Tok.cnt := ⟨fun c z => (by cases z), fun c o _ => rfl, fun c o _ _ => rfl, fun c => rfl⟩
theorem mk_key : MkOk keyT := by
  have e : ∀ (c : Ct) (o : Int), c.b = false → bkTake ⟨c.d, c, u80⟩ o = if (ctTake c o).1 = false then (false, ⟨c.d, (ctTake c o).2, u80⟩) else (true, ⟨(ctTake c o).2.d, (ctTake c o).2, u80⟩) := fun c o h => by
    unfold bkTake
    show (if (ctTake c o).1 = false then _ else if c.b = true then _ else _) = _
    by_cases c1 : (ctTake c o).1 = false
    · rw [if_pos c1, if_pos c1]
    · rw [if_neg c1, if_neg c1, if_neg (by rw [h]; decide)]
      unfold bkFin
      have : decide (u80.ms > 0) = false := by decide
      rw [this]
      simp
  refine ⟨fun c z => (by cases z), fun c o h => ?_, fun c o h a => ?_, fun c => rfl⟩
  · show (bkTake ⟨c.d, c, u80⟩ o).1 = _
    rw [e c o h]
    by_cases c1 : (ctTake c o).1 = false
    · rw [if_pos c1, c1]
    · rw [if_neg c1]
      cases q : (ctTake c o).1 with
      | true => rfl
      | false => exact absurd q c1
  · show Tok.key (bkTake ⟨c.d, c, u80⟩ o).2 = _
    rw [e c o h, if_neg (by rw [a]; decide)]
    rfl
/-- such a token begins here -/
structure Beg (os : List Int) (at_ : Nat) (s : Sc) (mk : Ct → Tok) : Prop where
  tok : MkOk mk
  fst : ∀ o, os[at_]? = some o → scTake s o = scBegin s (mk ct0) o
  nw : s.wt ≠ "nothing"
def ctC (v : Int) : Ct := ⟨false, false, [], some v⟩
theorem ctz_dig {v o : Int} (d : isDg o = true) (h : v ≠ 0) : ctTake (ctC v) o = (true, ctC (v * 10 + (o - 48))) := by
  obtain ⟨d1, d2⟩ := dg_rng d
  unfold ctTake ctCount
  rw [if_neg (by show ¬ false = true; decide), if_neg (fun z => by have := z.1; omega), if_neg (fun z => ?_)]
  · show (true, (⟨false, false, [], some (v * 10 + o - 48)⟩ : Ct)) = _
    rw [show v * 10 + o - 48 = v * 10 + (o - 48) by omega]
    rfl
  · rcases z with z | z
    · rw [d] at z
      cases z
    · exact h (by injection z)
theorem ctz_dig0 {o : Int} (d : isDg o = true) : ctTake ct0 o = (true, ctC (o - 48)) := by
  obtain ⟨d1, d2⟩ := dg_rng d
  unfold ctTake ctCount
  rw [if_neg (by show ¬ false = true; decide), if_neg (fun z => by have := z.1; omega), if_neg (fun z => ?_)]
  · show (true, (⟨false, false, [], some (0 * 10 + o - 48)⟩ : Ct)) = _
    rw [show 0 * 10 + o - 48 = o - 48 by omega]
    rfl
  · rcases z with z | z
    · rw [d] at z
      cases z
    · cases z
theorem ct_no0 {o : Int} (d : isDg o = false) : (ctTake ct0 o).1 = false := by
  unfold ctTake ctCount
  rw [if_neg (by show ¬ false = true; decide), if_neg (fun z => z.2 rfl), if_pos (.inl d)]
theorem ct_no {v o : Int} (h : o ≠ 58) (d : isDg o = false ∨ v = 0) : (ctTake (ctC v) o).1 = false := by
  unfold ctTake ctCount
  rw [if_neg (by show ¬ false = true; decide), if_neg (fun z => h z.1), if_pos (d.imp id fun e => by rw [e]; rfl)]
theorem ct_col (v : Int) : ctTake (ctC v) 58 = (true, ⟨decide (v = 0), true, [], some v⟩) := by
  unfold ctTake ctCount
  rw [if_neg (by show ¬ false = true; decide), if_pos ⟨rfl, fun z => by cases z⟩]
  rfl
/-- the state within such a token -/
def inT (s : Sc) (t : Tok) (i : Nat) : Sc := { s with tk := t, pl := i }
theorem inT_go {s : Sc} {t : Tok} {i : Nat} {o : Int} (h : t ≠ .no) : scTake (inT s t i) o = scGo (inT s t i) o := scTake_go h
theorem go_on {s : Sc} {t t' : Tok} {i : Nat} {o : Int} (h : t ≠ .no) (a : tokTake t o = (true, t')) (d : tokDone t' = false) : scTake (inT s t i) o = (true, [], inT s t' i) := by
  have a1 : tokTake (inT s t i).tk o = (true, t') := a
  rw [inT_go h]
  unfold scGo
  rw [a1, if_neg (fun z => Bool.noConfusion z), if_pos d]
  rfl
theorem gon_end {s : Sc} {t t' : Tok} {i : Nat} {o : Int} (h : t ≠ .no) (a : tokTake t o = (true, t')) (d : tokDone t' = true) : scTake (inT s t i) o = scEndToken (inT s t' i) := by
  have a1 : tokTake (inT s t i).tk o = (true, t') := a
  have d1 : ¬ tokDone t' = false := by rw [d]; decide
  rw [inT_go h]
  unfold scGo
  rw [a1, if_neg (fun z => Bool.noConfusion z), if_neg d1]
  rfl
theorem go_bad {s : Sc} {t : Tok} {i : Nat} {o : Int} (h : t ≠ .no) (a : (tokTake t o).1 = false) : (scTake (inT s t i) o).1 = false := by
  rw [inT_go h]
  unfold scGo
  show (if (tokTake t o).1 = false then _ else _ : Bool × List Ev × Sc).1 = _
  rw [if_pos a]
theorem dg_run {os : List Int} {a : Nat} {s : Sc} {b : Bs} {mk : Ct → Tok} (R : RdA os a s b) (B : Beg os a s mk) : ∀ {j : Nat}, Dgp os a j → 1 ≤ j → RdA os (a + j) (inT s (mk (ctC (cv os a j))) (a + j)) b
  | 0, _, z => absurd z (by decide)
  | 1, h, _ => by
    obtain ⟨o, ho, d⟩ := h.1 0 (by decide)
    have t1 := ctz_dig0 d
    have e1 := B.tok.fst ct0 o rfl
    have e2 := B.tok.snd ct0 o rfl (by rw [t1])
    refine R.step ho (es := []) (s' := { s with tk := mk (ctC (o - 48)) }) ?_ b rfl _ ?_
    · rw [B.fst o ho]
      unfold scBegin
      rw [e1, e2, t1]
    · rw [cv_succ (j := 0) ho, cv_zero, show (0 : Int) * 10 + (o - 48) = o - 48 by omega]
      rfl
  | j + 2, h, _ => by
    have ih := dg_run R B (dgp_le h (Nat.le_succ (j + 1))) (by omega)
    obtain ⟨o, ho, d⟩ := h.1 (j + 1) (by omega)
    have nz : cv os a (j + 1) ≠ 0 := Int.ne_of_gt (cv_pos (dgp_le h (Nat.le_succ (j + 1))) (by omega) (h.2 (by omega)))
    have t1 := ctz_dig d nz
    refine ih.step ho (go_on (B.tok.no _) (t' := mk (ctC (cv os a (j + 2)))) ?_ (B.tok.dn _)) b rfl _ rfl
    refine Prod.ext ?_ ?_
    · rw [B.tok.fst _ o rfl, t1]
    · rw [B.tok.snd _ o rfl (by rw [t1]), t1, cv_succ ho]
theorem cnt_bad {os : List Int} {a j : Nat} {s : Sc} {b : Bs} {mk : Ct → Tok} (R : RdA os a s b) (B : Beg os a s mk) (D : Dgs os a j) (h : j = 0 ∨ a + j = os.length ∨ os[a + j]? ≠ some 58) : rdAll os = .inl (a + j) := by
  obtain ⟨dl, dp, de⟩ := D
  by_cases j0 : j = 0
  · subst j0
    rcases de with e | ⟨o, ho, d⟩
    · exact R.over e B.nw
    · have d : isDg o = false := by
        rcases d with d | d
        · exact d
        · exact absurd d.1 (by decide)
      refine R.stop ho ?_
      rw [B.fst o ho]
      unfold scBegin
      show (tokTake (mk ct0) o).1 = false
      rw [B.tok.fst _ _ rfl]
      exact ct_no0 d
  · have R2 := dg_run R B dp (by omega)
    rcases de with e | ⟨o, ho, d⟩
    · exact R2.over e B.nw
    · have o58 : o ≠ 58 := fun z => by
        rcases h with h | h | h
        · exact j0 h
        · rw [h, List.getElem?_eq_none (Nat.le_refl _)] at ho
          cases ho
        · rw [z] at ho
          exact h ho
      refine R2.stop ho (go_bad (B.tok.no _) ?_)
      rw [B.tok.fst _ _ rfl]
      refine ct_no o58 (d.imp id fun e => ?_)
      rw [e.1]
      exact cv_one e.2
theorem cnt_col {os : List Int} {a j : Nat} {s : Sc} {b : Bs} {mk : Ct → Tok} (R : RdA os a s b) (B : Beg os a s mk) (D : Dgp os a j) (hj : 1 ≤ j) : tokTake (mk (ctC (cv os a j))) 58 = (true, mk ⟨decide (cv os a j = 0), true, [], some (cv os a j)⟩) := by
  refine Prod.ext ?_ ?_
  · rw [B.tok.fst _ _ rfl, ct_col]
  · rw [B.tok.snd _ _ rfl (by rw [ct_col]), ct_col]
/-! ### bytes -/
theorem row_cnt {os : List Int} {i : Nat} {s : Sc} {b : Bs} {m : Nat} (R : RdA os i (inT s (.cnt ⟨false, true, [], some (m : Int)⟩) i) b) : ∀ k : Nat, k < m → i + k ≤ os.length → RdA os (i + k) (inT s (.cnt ⟨false, true, (os.drop i).take k, some ((m : Int) - k)⟩) (i + k)) b
  | 0, _, _ => by
    rw [List.take_zero, show (m : Int) - ((0 : Nat) : Int) = m by omega]
    exact R
  | k + 1, h1, h2 => by
    have ih := row_cnt R k (by omega) (by omega)
    have ho : os[i + k]? = some os[i + k] := List.getElem?_eq_getElem (by omega)
    refine ih.step ho (go_on (t' := .cnt ⟨false, true, (os.drop i).take (k + 1), some ((m : Int) - (k + 1 : Nat))⟩) (fun z => by cases z) ?_ rfl) b rfl _ rfl
    rw [List.take_succ, drop_get, ho]
    show ((ctTake _ _).1, Tok.cnt (ctTake _ _).2) = _
    unfold ctTake
    rw [if_pos rfl]
    have e1 : ((some ((m : Int) - (k : Nat))).getD 0 - 1) = (m : Int) - (k + 1 : Nat) := by
      show (m : Int) - (k : Nat) - 1 = _
      omega
    rw [e1, decide_eq_false (by omega)]
    rfl
theorem scEnd_cnt (s : Sc) (c : Ct) (i : Nat) : scEndToken (inT s (.cnt c) i) = (true, [.lf "bytes" [kd c.os]], scEndValue (inT s .no i)) := rfl
theorem row_done {os : List Int} {i : Nat} {s : Sc} {b : Bs} {m : Nat} (R : RdA os i (inT s (.cnt ⟨false, true, [], some (m : Int)⟩) i) b) (hm : 0 < m) (h : i + m ≤ os.length) : RdA os (i + m) (scEndValue (inT s .no (i + m))) (b.putv (.lf "bytes" [kd ((os.drop i).take m)])) := by
  obtain ⟨k, rfl⟩ : ∃ k, m = k + 1 := ⟨m - 1, by omega⟩
  have ih := row_cnt R k (by omega) (by omega)
  have ho : os[i + k]? = some os[i + k] := List.getElem?_eq_getElem (by omega)
  have a : scTake (inT s (.cnt ⟨false, true, (os.drop i).take k, some (((k + 1 : Nat) : Int) - k)⟩) (i + k)) os[i + k] = (true, [.lf "bytes" [kd ((os.drop i).take (k + 1))]], scEndValue (inT s .no (i + k))) := by
    rw [gon_end (t' := .cnt ⟨true, true, (os.drop i).take (k + 1), some 0⟩) (fun z => by cases z) ?_ rfl]
    · exact scEnd_cnt s _ (i + k)
    · rw [List.take_succ, drop_get, ho]
      show ((ctTake _ _).1, Tok.cnt (ctTake _ _).2) = _
      unfold ctTake
      rw [if_pos rfl]
      have e1 : ((some (((k + 1 : Nat) : Int) - (k : Nat))).getD 0 - 1) = 0 := by
        show ((k + 1 : Nat) : Int) - (k : Nat) - 1 = _
        omega
      rw [e1]
      rfl
  exact ih.step ho a _ rfl _ rfl

/-! ### numbers -/
def bnS (sg w : Int) (st : Str) : Tok := .num ⟨false, sg, w, st⟩
theorem bnS_no (sg w : Int) (st : Str) : bnS sg w st ≠ .no := fun z => by cases z
theorem st_zero_ne : (("zero" : Str) = "") = False := eq_false (by decide +kernel)
theorem st_digits_ne : (("digits" : Str) = "") = False := eq_false (by decide +kernel)
theorem st_minus_ne : (("minus" : Str) = "") = False := eq_false (by decide +kernel)
theorem st_dz : (("digits" : Str) = "zero") = False := eq_false (by decide +kernel)
theorem st_dm : (("digits" : Str) = "minus") = False := eq_false (by decide +kernel)
theorem st_mz : (("minus" : Str) = "zero") = False := eq_false (by decide +kernel)
theorem st_ez : (("" : Str) = "zero") = False := eq_false (by decide +kernel)
theorem st_em : (("" : Str) = "minus") = False := eq_false (by decide +kernel)
theorem st_ed : (("" : Str) = "digits") = False := eq_false (by decide +kernel)
theorem st_md : (("minus" : Str) = "digits") = False := eq_false (by decide +kernel)
theorem num_dig {sg w o : Int} {st : Str} (d : isDg o = true) (h : ¬ (st = "zero" ∨ (st = "minus" ∧ o - 48 = 0))) : tokTake (bnS sg w st) o = (true, bnS sg (w * 10 + (o - 48)) (if st = "" ∧ o - 48 = 0 then "zero" else "digits")) := by
  obtain ⟨d1, d2⟩ := dg_rng d
  show ((bnTake _ o).1, Tok.num (bnTake _ o).2) = _
  unfold bnTake
  rw [if_neg (by omega), if_neg (by omega), if_pos d]
  unfold bnDigit
  rw [if_neg h]
  rfl
theorem num_run {os : List Int} {a : Nat} {s : Sc} {b : Bs} {sg : Int} {st : Str} (R : RdA os a (inT s (bnS sg 0 st) a) b) (hs : st = "" ∨ st = "minus") (hm : st = "minus" → os[a]? ≠ some 48) : ∀ {j : Nat}, Dgp os a j → 1 ≤ j → RdA os (a + j) (inT s (bnS sg (cv os a j) (if os[a]? = some 48 then "zero" else "digits")) (a + j)) b
  | 0, _, z => absurd z (by decide)
  | 1, h, _ => by
    obtain ⟨o, ho, d⟩ := h.1 0 (by decide)
    have ho' : os[a]? = some o := ho
    have t := num_dig (sg := sg) (w := 0) (st := st) d (fun z => by
      rcases z with z | z
      · rcases hs with e | e
        · rw [e, st_ez] at z
          exact z
        · rw [e, st_mz] at z
          exact z
      · refine hm z.1 ?_
        rw [ho', show o = 48 by omega])
    refine R.step ho' (go_on (bnS_no _ _ _) t rfl) b rfl _ ?_
    have e : (if st = "" ∧ o - 48 = 0 then ("zero" : Str) else "digits") = (if os[a]? = some 48 then ("zero" : Str) else "digits") := by
      by_cases c : o = 48
      · have se : st = "" := hs.resolve_right fun z => hm z (by rw [ho', c])
        rw [if_pos ⟨se, by omega⟩, if_pos (by rw [ho', c])]
      · rw [if_neg (fun z => c (by omega)), if_neg (fun z => c (by rw [ho'] at z; injection z))]
    rw [cv_succ (j := 0) ho, cv_zero, e]
    rfl
  | j + 2, h, _ => by
    have ih := num_run R hs hm (dgp_le h (Nat.le_succ (j + 1))) (by omega)
    obtain ⟨o, ho, d⟩ := h.1 (j + 1) (by omega)
    have n48 := h.2 (by omega)
    rw [if_neg n48] at ih ⊢
    have t := num_dig (sg := sg) (w := cv os a (j + 1)) (st := "digits") d (fun z => by
      rcases z with z | z
      · rw [st_dz] at z
        exact z
      · rw [st_dm] at z
        exact z.1)
    rw [if_neg (fun z => by have := z.1; rw [st_digits_ne] at this; exact this), ← cv_succ ho] at t
    exact ih.step ho (go_on (bnS_no _ _ _) t rfl) b rfl _ rfl
theorem num_no {os : List Int} {p : Nat} {s : Sc} {b : Bs} {sg w o : Int} {st : Str} (R : RdA os p (inT s (bnS sg w st) p) b) (ho : os[p]? = some o) (h1 : o = 101 → st ≠ "zero" ∧ st ≠ "digits") (h2 : o = 45 → st ≠ "") (h3 : isDg o = true → st = "zero" ∨ st = "minus" ∧ o = 48) : rdAll os = .inl p := by
  refine R.stop ho (go_bad (bnS_no _ _ _) ?_)
  show (bnTake _ o).1 = false
  unfold bnTake
  by_cases c : o = 101
  · rw [if_pos c]
    have : bnEnds ⟨false, sg, w, st⟩ = false := by
      unfold bnEnds
      exact decide_eq_false fun z => z.elim (h1 c).1 (h1 c).2
    rw [this]
    rfl
  rw [if_neg c]
  by_cases c2 : o = 45
  · rw [if_pos c2]
    unfold bnMinus
    rw [if_neg (h2 c2)]
  rw [if_neg c2]
  by_cases c3 : isDg o = true
  · rw [if_pos c3]
    unfold bnDigit
    rw [if_pos ((h3 c3).imp id fun z => ⟨z.1, by rw [z.2]; rfl⟩)]
  · rw [if_neg c3]
theorem num_end {os : List Int} {p : Nat} {s : Sc} {b : Bs} {sg w : Int} {st : Str} (R : RdA os p (inT s (bnS sg w st) p) b) (ho : os[p]? = some 101) (h : st = "zero" ∨ st = "digits") :
    ((nrm (sg * w) 0).2 ≤ 800 → RdA os (p + 1) (scEndValue (inT s .no (p + 1))) (b.putv (.lf "number" [.int (nrm (sg * w) 0).1, .int (nrm (sg * w) 0).2]))) ∧ (800 < (nrm (sg * w) 0).2 → rdAll os = .inl p) := by
  have en : bnEnds ⟨false, sg, w, st⟩ = true := by
    unfold bnEnds
    exact decide_eq_true h
  have t : bnTake ⟨false, sg, w, st⟩ 101 = (decide ((nrm (sg * w) 0).2 ≤ 800), ⟨true, sg, w, st⟩) := by
    unfold bnTake
    rw [if_pos rfl, en]
    rfl
  refine ⟨fun q => ?_, fun q => ?_⟩
  · have a : scTake (inT s (bnS sg w st) p) 101 = (true, [.lf "number" [.int (nrm (sg * w) 0).1, .int (nrm (sg * w) 0).2]], scEndValue (inT s .no p)) := by
      rw [gon_end (t' := .num ⟨true, sg, w, st⟩) (bnS_no _ _ _) ?_ rfl]
      · rfl
      · show ((bnTake _ _).1, Tok.num (bnTake _ _).2) = _
        rw [t, decide_eq_true q]
    exact R.step ho a _ rfl _ rfl
  · refine R.stop ho (go_bad (bnS_no _ _ _) ?_)
    show (bnTake _ _).1 = false
    rw [t]
    exact decide_eq_false (by omega)
/-! ### keys -/
def u8all : U8 → List Int → Option U8
  | s, [] => some s
  | s, o :: r => if (u8take s o).1 = true then u8all (u8take s o).2 r else none
theorem u8all_snoc : ∀ (xs : List Int) (s : U8) (o : Int), u8all s (xs ++ [o]) = (u8all s xs).bind fun t => if (u8take t o).1 = true then some (u8take t o).2 else none
  | [], s, o => by
    show (if (u8take s o).1 = true then u8all (u8take s o).2 [] else none) = (if (u8take s o).1 = true then some (u8take s o).2 else none)
    rfl
  | x :: xs, s, o => by
    show (if (u8take s x).1 = true then u8all (u8take s x).2 (xs ++ [o]) else none) = (if (u8take s x).1 = true then u8all (u8take s x).2 xs else none).bind _
    by_cases c : (u8take s x).1 = true
    · rw [if_pos c, if_pos c, u8all_snoc xs]
    · rw [if_neg c, if_neg c]
      rfl
theorem u8all_pre {xs : List Int} {k : Nat} {u : U8} (h : u8all u80 (xs.take (k + 1)) = some u) {o : Int} (ho : xs[k]? = some o) : ∃ t, u8all u80 (xs.take k) = some t ∧ (u8take t o).1 = true ∧ (u8take t o).2 = u := by
  rw [List.take_succ, ho] at h
  have h : u8all u80 (xs.take k ++ [o]) = some u := h
  rw [u8all_snoc] at h
  obtain ⟨t, e, q⟩ := Option.bind_eq_some_iff.mp h
  by_cases c : (u8take t o).1 = true
  · rw [if_pos c] at q
    exact ⟨t, e, c, by injection q⟩
  · rw [if_neg c] at q
    cases q
def kyT (os : List Int) (m : Int) (u : U8) : Tok := .key ⟨false, ⟨false, true, os, some m⟩, u⟩
theorem kyT_no (os : List Int) (m : Int) (u : U8) : kyT os m u ≠ .no := fun z => by cases z
theorem ky_take {xs : List Int} {m : Int} {u : U8} {o : Int} : bkTake ⟨false, ⟨false, true, xs, some m⟩, u⟩ o = if (u8take u o).1 = false then (false, ⟨false, ⟨decide (m - 1 = 0), true, xs ++ [o], some (m - 1)⟩, (u8take u o).2⟩) else (!decide (m - 1 = 0) || !decide ((u8take u o).2.ms > 0), ⟨decide (m - 1 = 0), ⟨decide (m - 1 = 0), true, xs ++ [o], some (m - 1)⟩, (u8take u o).2⟩) := by
  have e : ctTake ⟨false, true, xs, some m⟩ o = (true, ⟨decide (m - 1 = 0), true, xs ++ [o], some (m - 1)⟩) := by
    unfold ctTake
    rw [if_pos rfl]
    rfl
  unfold bkTake
  dsimp only
  rw [e, if_neg (fun z => Bool.noConfusion z), if_pos rfl]
  rfl
theorem row_key {os : List Int} {i : Nat} {s : Sc} {b : Bs} {m : Nat} (R : RdA os i (inT s (kyT [] m u80) i) b) : ∀ (k : Nat) (u : U8), k < m → i + k ≤ os.length → u8all u80 ((os.drop i).take k) = some u → RdA os (i + k) (inT s (kyT ((os.drop i).take k) ((m : Int) - k) u) (i + k)) b
  | 0, u, _, _, h => by
    rw [List.take_zero] at h ⊢
    cases h
    rw [show (m : Int) - ((0 : Nat) : Int) = m by omega]
    exact R
  | k + 1, u, h1, h2, h => by
    have ho : os[i + k]? = some os[i + k] := List.getElem?_eq_getElem (by omega)
    have ho2 : (os.drop i)[k]? = some os[i + k] := by rw [drop_get, ho]
    obtain ⟨t, e, a, rfl⟩ := u8all_pre h ho2
    have ih := row_key R k t (by omega) (by omega) e
    refine ih.step ho (go_on (t' := kyT ((os.drop i).take (k + 1)) ((m : Int) - (k + 1 : Nat)) (u8take t os[i + k]).2) (kyT_no _ _ _) ?_ rfl) b rfl _ rfl
    show ((bkTake _ _).1, Tok.key (bkTake _ _).2) = _
    rw [ky_take, if_neg (by rw [a]; decide), show (m : Int) - (k : Nat) - 1 = (m : Int) - (k + 1 : Nat) by omega, decide_eq_false (by omega), List.take_succ, ho2]
    rfl
def keySt (s : Sc) (k : List Int) (i : Nat) : Sc := { s with tk := .no, wt := "entry", lv := scNote s.lv k, pl := i }
/-- at the octet k of the row -/
theorem key_bad {os : List Int} {i k : Nat} {s : Sc} {b : Bs} {m : Nat} {u : U8} {o : Int} (R : RdA os i (inT s (kyT [] m u80) i) b) (hk : k < m) (e : u8all u80 ((os.drop i).take k) = some u) (ho : os[i + k]? = some o) (a : (u8take u o).1 = false) : rdAll os = .inl (i + k) := by
  have hl := (List.getElem?_eq_some_iff.mp ho).1
  have ih := row_key R k u hk (by omega) e
  refine ih.stop ho (go_bad (kyT_no _ _ _) ?_)
  show (bkTake _ _).1 = false
  rw [ky_take, if_pos a]
theorem key_end {os : List Int} {i : Nat} {s : Sc} {b : Bs} {m : Nat} {u : U8} (R : RdA os i (inT s (kyT [] m u80) i) b) (hm : 0 < m) (hl : i + m ≤ os.length) (e : u8all u80 ((os.drop i).take m) = some u) :
    (u.ms > 0 → rdAll os = .inl (i + m - 1)) ∧ (¬ u.ms > 0 → scFresh s.lv u.ps = false → rdAll os = .inl (i + m - 1)) ∧ (¬ u.ms > 0 → scFresh s.lv u.ps = true → RdA os (i + m) (keySt s u.ps (i + m)) (b.run [.ky u.ps])) := by
  obtain ⟨k, rfl⟩ : ∃ k, m = k + 1 := ⟨m - 1, by omega⟩
  have ho : os[i + k]? = some os[i + k] := List.getElem?_eq_getElem (by omega)
  have ho2 : (os.drop i)[k]? = some os[i + k] := by rw [drop_get, ho]
  obtain ⟨t, e1, a, rfl⟩ := u8all_pre e ho2
  have ih := row_key R k t (by omega) (by omega) e1
  have tk : bkTake ⟨false, ⟨false, true, (os.drop i).take k, some (((k + 1 : Nat) : Int) - k)⟩, t⟩ os[i + k] = (!decide ((u8take t os[i + k]).2.ms > 0), ⟨true, ⟨true, true, (os.drop i).take (k + 1), some 0⟩, (u8take t os[i + k]).2⟩) := by
    rw [ky_take, if_neg (by rw [a]; decide), show ((k + 1 : Nat) : Int) - (k : Nat) - 1 = 0 by omega, List.take_succ, ho2]
    rfl
  have ep : i + (k + 1) - 1 = i + k := by omega
  rw [ep]
  have en : ¬ (u8take t os[i + k]).2.ms > 0 → scTake (inT s (kyT ((os.drop i).take k) (((k + 1 : Nat) : Int) - k) t) (i + k)) os[i + k] = (scFresh s.lv (u8take t os[i + k]).2.ps, [.ky (u8take t os[i + k]).2.ps], keySt s (u8take t os[i + k]).2.ps (i + k)) := fun c => by
    rw [gon_end (t' := .key ⟨true, ⟨true, true, (os.drop i).take (k + 1), some 0⟩, (u8take t os[i + k]).2⟩) (kyT_no _ _ _) ?_ rfl]
    · rfl
    · show ((bkTake _ _).1, Tok.key (bkTake _ _).2) = _
      rw [tk, decide_eq_false c]
      rfl
  refine ⟨fun c => ?_, fun c f => ?_, fun c f => ?_⟩
  · refine ih.stop ho (go_bad (kyT_no _ _ _) ?_)
    show (bkTake _ _).1 = false
    rw [tk, decide_eq_true c]
    rfl
  · refine ih.stop ho ?_
    rw [en c]
    exact f
  · have q := en c
    rw [f] at q
    exact ih.step ho q _ rfl _ rfl
/-- a key without octets: it ends with the colon -/
theorem key_nil {os : List Int} {p : Nat} {s : Sc} {b : Bs} {v : Int} (R : RdA os p (inT s (keyT (ctC v)) p) b) (ho : os[p]? = some 58) (hv : v = 0) : (scFresh s.lv [] = false → rdAll os = .inl p) ∧ (scFresh s.lv [] = true → RdA os (p + 1) (keySt s [] (p + 1)) (b.run [.ky []])) := by
  subst hv
  have en : scTake (inT s (keyT (ctC 0)) p) 58 = (scFresh s.lv [], [.ky []], keySt s [] p) := by
    rw [gon_end (t' := keyT ⟨true, true, [], some 0⟩) (mk_key.no _) ?_ rfl]
    · rfl
    · refine Prod.ext ?_ ?_
      · rw [mk_key.fst _ _ rfl, ct_col]
      · rw [mk_key.snd _ _ rfl (by rw [ct_col]), ct_col]
        rfl
  refine ⟨fun f => R.stop ho (by rw [en]; exact f), fun f => ?_⟩
  rw [f] at en
  exact R.step ho en _ rfl _ rfl

/-- a value may begin -/
def VSt (s : Sc) : Prop := s.tk = .no ∧ (s.wt = "value" ∨ s.wt = "entry")
theorem vst_nn {s : Sc} (h : VSt s) : s.wt ≠ "nothing" := fun z => by
  rcases h.2 with e | e <;> rw [e] at z <;> exact absurd z (by decide +kernel)
theorem vst_nk {s : Sc} (h : VSt s) : s.wt ≠ "key" := fun z => by
  rcases h.2 with e | e <;> rw [e] at z <;> exact absurd z (by decide +kernel)
theorem num_start {os : List Int} {a : Nat} {s : Sc} {b : Bs} (V : VSt s) (R : RdA os a s b) (h : os[a]? = some 105) : RdA os (a + 1) (inT s (bnS 1 0 "") (a + 1)) b := by
  refine R.step h (es := []) (s' := { s with tk := .num bn0 }) ?_ b rfl _ rfl
  rw [scTake_mark V.1]
  unfold scMark
  rw [if_neg (by decide), if_neg (vst_nn V), if_neg (vst_nk V), if_neg (by decide), if_neg (by decide), if_pos rfl]
theorem num_minus {os : List Int} {a : Nat} {s : Sc} {b : Bs} (R : RdA os a (inT s (bnS 1 0 "") a) b) (h : os[a]? = some 45) : RdA os (a + 1) (inT s (bnS (-1) 0 "minus") (a + 1)) b := by
  refine R.step h (go_on (t' := bnS (-1) 0 "minus") (bnS_no _ _ _) ?_ rfl) b rfl _ rfl
  show ((bnTake _ _).1, Tok.num (bnTake _ _).2) = _
  unfold bnTake
  rw [if_neg (by decide), if_pos rfl]
  unfold bnMinus
  rw [if_pos rfl]
  rfl
theorem num_all {os : List Int} {a j : Nat} {s : Sc} {b : Bs} {sg : Int} {st : Str} (V : VSt s) (R : RdA os a (inT s (bnS sg 0 st) a) b) (hs : st = "" ∧ os[a]? ≠ some 45 ∨ st = "minus" ∧ os[a]? ≠ some 48) (D : Dgs os a j) :
    ((j = 0 ∨ a + j = os.length ∨ os[a + j]? ≠ some 101) → rdAll os = .inl (a + j)) ∧ (1 ≤ j → os[a + j]? = some 101 → ((nrm (sg * cv os a j) 0).2 ≤ 800 → RdA os (a + j + 1) (scEndValue (inT s .no (a + j + 1))) (b.putv (.lf "number" [.int (nrm (sg * cv os a j) 0).1, .int (nrm (sg * cv os a j) 0).2]))) ∧ (800 < (nrm (sg * cv os a j) 0).2 → rdAll os = .inl (a + j))) := by
  obtain ⟨dl, dp, de⟩ := D
  have vn := vst_nn V
  have h1 : st = "" ∨ st = "minus" := hs.imp (·.1) (·.1)
  have h2 : st = "minus" → os[a]? ≠ some 48 := fun z => by
    rcases hs with ⟨e, _⟩ | ⟨_, e⟩
    · rw [e] at z
      exact absurd z (by decide +kernel)
    · exact e
  refine ⟨fun h => ?_, fun hj ho => ?_⟩
  · by_cases j0 : j = 0
    · subst j0
      rcases de with e | ⟨o, ho, d⟩
      · exact R.over e (fun z => vn z)
      · have d : isDg o = false := by
          rcases d with d | d
          · exact d
          · exact absurd d.1 (by decide)
        refine num_no R ho (fun _ => ?_) (fun e => ?_) (fun z => by rw [d] at z; cases z)
        · rcases h1 with e | e <;> rw [e] <;> exact ⟨by decide +kernel, by decide +kernel⟩
        · rcases hs with ⟨_, e2⟩ | ⟨e2, _⟩
          · exact absurd (by rw [← e]; exact ho) e2
          · rw [e2]
            decide +kernel
    · have R2 := num_run R h1 h2 dp (by omega)
      rcases de with e | ⟨o, ho, d⟩
      · exact R2.over e (fun z => vn z)
      · have o101 : o ≠ 101 := fun z => by
          rcases h with h | h | h
          · exact j0 h
          · rw [h, List.getElem?_eq_none (Nat.le_refl _)] at ho
            cases ho
          · rw [z] at ho
            exact h ho
        refine num_no R2 ho (fun z => absurd z o101) (fun _ => ?_) (fun z => ?_)
        · split <;> decide +kernel
        · rcases d with d | d
          · rw [d] at z
            cases z
          · rw [if_pos d.2]
            exact .inl rfl
  · have R2 := num_run R h1 h2 dp hj
    exact num_end R2 ho (by
      by_cases c : os[a]? = some 48
      · rw [if_pos c]
        exact .inl rfl
      · rw [if_neg c]
        exact .inr rfl)
theorem beg_cnt {os : List Int} {a : Nat} {s : Sc} (V : VSt s) (h : ∀ o, os[a]? = some o → o ≠ 101 ∧ o ≠ 108 ∧ o ≠ 100 ∧ o ≠ 105) : Beg os a s Tok.cnt := ⟨mk_cnt, fun o ho => by
  obtain ⟨h1, h2, h3, h4⟩ := h o ho
  rw [scTake_mark V.1]
  unfold scMark
  rw [if_neg h1, if_neg (vst_nn V), if_neg (vst_nk V), if_neg h2, if_neg h3, if_neg h4], vst_nn V⟩
theorem beg_key {os : List Int} {a : Nat} {s : Sc} (tk : s.tk = .no) (wt : s.wt = "key") (h : os[a]? ≠ some 101) : Beg os a s keyT := ⟨mk_key, fun o ho => by
  rw [scTake_mark tk]
  unfold scMark
  rw [if_neg (fun z => h (by rw [← z]; exact ho)), if_neg (by rw [wt]; decide +kernel), if_pos wt]
  rfl, by rw [wt]; decide +kernel⟩
/-! ### lists and maps -/
def openSt (s : Sc) (m : Bool) (i : Nat) : Sc := { s with tk := .no, lv := ⟨m, []⟩ :: s.lv, wt := if m = true then "key" else "value", pl := i }
theorem open_run {os : List Int} {a : Nat} {s : Sc} {b : Bs} {m : Bool} (V : VSt s) (R : RdA os a s b) (h : os[a]? = some (if m = true then 100 else 108)) (hl : s.lv.length < 24) : RdA os (a + 1) (openSt s m (a + 1)) ⟨⟨m, none, []⟩ :: b.fs, b.val⟩ := by
  refine R.step h (es := [.op m]) (s' := openSt s m s.pl) ?_ _ rfl _ rfl
  rw [scTake_mark V.1]
  have g : ∀ m', scGrow s m' = (true, [.op m'], { s with lv := ⟨m', []⟩ :: s.lv, wt := if m' = true then "key" else "value" }) := fun m' => by
    unfold scGrow
    rw [if_neg (by omega)]
  have e : ∀ m', (true, [Ev.op m'], ({ s with lv := ⟨m', []⟩ :: s.lv, wt := if m' = true then "key" else "value" } : Sc)) = (true, [.op m'], openSt s m' s.pl) := fun m' => by
    unfold openSt
    rw [← V.1]
  cases m with
  | true =>
    show scMark s 100 = _
    unfold scMark
    rw [if_neg (by decide), if_neg (vst_nn V), if_neg (vst_nk V), if_neg (by decide), if_pos rfl, g, e]
  | false =>
    show scMark s 108 = _
    unfold scMark
    rw [if_neg (by decide), if_neg (vst_nn V), if_neg (vst_nk V), if_pos rfl, g, e]
theorem close_run {os : List Int} {a : Nat} {s : Sc} {b : Bs} {l : Lv} {r : List Lv} {f : Pf} {fs : List Pf} (tk : s.tk = .no) (wt : s.wt ≠ "entry") (hlv : s.lv = l :: r) (hb : b.fs = f :: fs) (R : RdA os a s b) (h : os[a]? = some 101) : RdA os (a + 1) { s with lv := r, wt := wtOf r, pl := a + 1 } ((Bs.mk fs b.val).putv f.built) := by
  refine R.step h (es := [.cl]) (s' := { s with lv := r, wt := wtOf r }) ?_ _ ?_ _ rfl
  · rw [scTake_mark tk]
    unfold scMark
    rw [if_pos rfl]
    unfold scClose
    rw [hlv]
    dsimp only
    rw [if_neg wt]
    rfl
  · show _ = b.step .cl
    unfold Bs.step
    rw [hb]
/-- no value can begin here -/
theorem val_no {os : List Int} {a : Nat} {s : Sc} {b : Bs} {o : Int} (V : VSt s) (R : RdA os a s b) (ho : os[a]? = some o) (h1 : o ≠ 105) (h2 : o = 101 → s.wt = "entry" ∨ s.lv = []) (h3 : o = 108 ∨ o = 100 → s.lv.length = 24) (h4 : isDg o = false) : rdAll os = .inl a := by
  refine R.stop ho ?_
  rw [scTake_mark V.1]
  unfold scMark
  by_cases c : o = 101
  · rw [if_pos c]
    unfold scClose
    rcases h2 c with e | e
    · cases hl : s.lv with
      | nil => rfl
      | cons l r =>
        dsimp only
        rw [if_pos e]
    · rw [e]
  rw [if_neg c, if_neg (vst_nn V), if_neg (vst_nk V)]
  have g : ∀ m, s.lv.length = 24 → (scGrow s m).1 = false := fun m e => by
    unfold scGrow
    rw [if_pos e]
  by_cases c2 : o = 108
  · rw [if_pos c2]
    exact g _ (h3 (.inl c2))
  rw [if_neg c2]
  by_cases c3 : o = 100
  · rw [if_pos c3]
    exact g _ (h3 (.inr c3))
  rw [if_neg c3, if_neg h1]
  show (tokTake (.cnt ct0) o).1 = false
  exact ct_no0 h4

/-! ### the law's own reader: counts -/



/-- a for over range(lo, lo + m), what stands behind a break known -/
theorem r_turnsR {σ : St} {H : Hp} {n : St → Hp → Prop} {r : VK} {lo : Int} {m : Nat} {g : TG} {tb : TS} (M : St → Hp → Prop) (hM : ∀ σ H, M σ H → n σ H) (Pv : Nat → St → Hp → Prop) (h0 : Pv 0 σ H)
    (hs : ∀ n' : St → Hp → Prop, (∀ σ H, M σ H → n' σ H) → ∀ (i : Nat) σ H, i < m → Pv i σ H → g (.int (lo + (i : Nat))) σ H fun σ2 H2 => tb ⟨Pv (i + 1), r, n', Pv (i + 1)⟩ σ2 H2) (hd : ∀ σ H, Pv m σ H → M σ H) :
    ∃ W : Nat → Nat → St → Hp → Prop, (∃ m, W 0 m σ H) ∧ ∀ i k σ H, W i k σ H →
    ((Itr lo m).stop i H ∧ n σ H) ∨ ((Itr lo m).go i H ∧ ∃ N : St → Hp → Prop, (∀ σ' H', N σ' H' → ∃ m', m' < k ∧ W (i + 1) m' σ' H') ∧ ∀ x H', (Itr lo m).yld i H x H' → g x σ H' fun σ2 H2 => tb ⟨N, r, n, N⟩ σ2 H2) :=
  for_range (D := ⟨n, r, fun _ _ => False, fun _ _ => False⟩) Pv h0 (hs n hM) fun σ H p => hM _ _ (hd _ _ p)
def dls (os : List Int) (a j : Nat) : List Int := ((os.drop a).take j).map fun o => o - 48
theorem dls_succ {os : List Int} {a j : Nat} {o : Int} (h : os[a + j]? = some o) : dls os a (j + 1) = dls os a j ++ [o - 48] := by
  unfold dls
  rw [List.take_succ, drop_get, h, List.map_append]
  rfl
theorem dls_len {os : List Int} {a j : Nat} (h : a + j ≤ os.length) : (dls os a j).length = j := by
  unfold dls
  rw [List.length_map, List.length_take, List.length_drop]
  omega
theorem cv_dls (os : List Int) (a j : Nat) : cv os a j = (dls os a j).foldl (fun w d => w * 10 + d) 0 := by
  unfold cv cvf dls
  rw [List.foldl_map]
theorem dls_one {os : List Int} {a : Nat} {o : Int} (h : os[a]? = some o) : dls os a 1 = [o - 48] := by
  have := dls_succ (j := 0) (a := a) h
  rw [this]
  unfold dls
  rw [List.take_zero]
  rfl
theorem dls_zero {os : List Int} {a i : Nat} (hl : a + i ≤ os.length) (h : dls os a i = [0]) : i = 1 ∧ os[a]? = some 48 := by
  have l := dls_len hl
  rw [h] at l
  have l : 1 = i := l
  subst l
  have ho : os[a]? = some os[a] := List.getElem?_eq_getElem (by omega)
  rw [dls_one ho] at h
  injection h with h _
  refine ⟨rfl, ?_⟩
  rw [ho, show os[a] = 48 by omega]
theorem dgp_more {os : List Int} {a i : Nat} {o : Int} (D : Dgp os a i) (ho : os[a + i]? = some o) (d : isDg o = true) (nz : dls os a i ≠ [0]) : Dgp os a (i + 1) := by
  refine ⟨fun k hk => ?_, fun z e => ?_⟩
  · by_cases c : k < i
    · exact D.1 k c
    · rw [show k = i by omega]
      exact ⟨o, ho, d⟩
  · by_cases c : 2 ≤ i
    · exact D.2 c e
    · have : i = 1 := by omega
      subst this
      exact nz (by rw [dls_one e]; rfl)
theorem not_dg {o : Int} (h : o < 48 ∨ 57 < o) : isDg o = false := by
  unfold isDg
  rcases h with h | h
  · rw [decide_eq_false (by omega)]
    rfl
  · rw [decide_eq_false (p := o ≤ 57) (by omega), Bool.and_false]
theorem is_dg {o : Int} (h1 : ¬ o < 48) (h2 : ¬ 57 < o) : isDg o = true := by
  unfold isDg
  rw [decide_eq_true (by omega), decide_eq_true (by omega)]
  rfl
/-! UTF-8, as the law reads it -/
def ld (o : Int) : Int := 1 + (if decide (223 < o) = true then 1 else 0) + (if decide (239 < o) = true then 1 else 0)
def llo (o : Int) : Int := 128 + 32 * (if decide (o = 224) = true then 1 else 0) + 16 * (if decide (o = 240) = true then 1 else 0)
def lhi (o : Int) : Int := 191 - 32 * (if decide (o = 237) = true then 1 else 0) - 48 * (if decide (o = 244) = true then 1 else 0)
def lmk (o : Int) : Int := if ld o = 1 then 192 else if ld o = 2 then 224 else 240
theorem ld_rng (o : Int) : ld o = 1 ∨ ld o = 2 ∨ ld o = 3 := by
  unfold ld
  split <;> split <;> omega
theorem ld_ix (o : Int) : atI ([0, 192, 224, 240].map V.int) (ld o) = some (.int (lmk o)) := by
  unfold lmk
  rcases ld_rng o with e | e | e <;> rw [e] <;> rfl
theorem rows_find : ∀ k : Fin 51, (rows8.find? (·.is (194 + (k.val : Int)))).map (fun r => (r.m, r.le, r.mo, mark8 r.m)) = some (ld (194 + (k.val : Int)), llo (194 + (k.val : Int)), lhi (194 + (k.val : Int)), lmk (194 + (k.val : Int))) := by decide +kernel
theorem u8_start (u : U8) {o : Int} (h1 : 194 ≤ o) (h2 : o ≤ 244) : u8start u o = (true, ⟨u.ps, ld o, o - lmk o, llo o, lhi o⟩) := by
  obtain ⟨k, hk⟩ : ∃ k : Fin 51, o = 194 + (k.val : Int) := ⟨⟨(o - 194).toNat, by omega⟩, by show o = 194 + ((o - 194).toNat : Int); omega⟩
  have q := rows_find k
  rw [← hk] at q
  unfold u8start
  cases hf : rows8.find? (·.is o) with
  | none => rw [hf] at q; cases q
  | some r =>
    rw [hf] at q
    have q : some (r.m, r.le, r.mo, mark8 r.m) = some (ld o, llo o, lhi o, lmk o) := q
    injection q with q
    injection q with q1 q
    injection q with q2 q
    injection q with q3 q4
    show (true, (⟨u.ps, r.m, o - mark8 r.m, r.le, r.mo⟩ : U8)) = _
    rw [q4, q1, q2, q3]
theorem u8_none (u : U8) {o : Int} (h : o < 194 ∨ 244 < o) : (u8start u o).1 = false := by
  unfold u8start
  have : rows8.find? (·.is o) = none := by
    unfold rows8
    simp only [List.find?, U8R.is]
    repeat rw [decide_eq_false (by omega)]
  rw [this]
def sp__law_count (K : Frg) : Sp := sp2 fun o a H Q _ => ∃ (p : Addr) (os : List Int) (at_ : Nat), o = .ref p ∧ a = .int (at_ : Nat) ∧ H p = some (.lst (os.map V.int)) ∧ os.length ≤ 9000000 ∧ at_ ≤ os.length ∧
  ∀ (j : Nat) (R : Addr) (H' : Hp), Dgs os at_ j → H' R = some (.lst [.bl (decide (j ≠ 0)), .int (cv os at_ j), .int ((at_ + j : Nat) : Int)]) → Same H H' → Q (.ref R) H'
def sp__law_counted (K : Frg) : Sp := sp2 fun o a H Q _ => ∃ (p : Addr) (os : List Int) (at_ : Nat), o = .ref p ∧ a = .int (at_ : Nat) ∧ H p = some (.lst (os.map V.int)) ∧ os.length ≤ 9000000 ∧ at_ ≤ os.length ∧
  (∀ (j : Nat) (R : Addr) (H' : Hp), Dgs os at_ j → (j = 0 ∨ at_ + j = os.length ∨ os[at_ + j]? ≠ some 58) → H' R = some (.lst [.bl false, .non, .int ((at_ + j : Nat) : Int)]) → Same H H' → Q (.ref R) H') ∧
  (∀ (j : Nat) (R q : Addr) (m : Nat) (row : List Int) (H' : Hp), Dgs os at_ j → 1 ≤ j → os[at_ + j]? = some 58 → cv os at_ j = (m : Int) → row = (os.drop (at_ + j + 1)).take m → H' q = some (.lst (row.map V.int)) → H' R = some (.lst [.bl (decide (row.length = m)), .ref q, .int ((at_ + j + 1 + row.length : Nat) : Int)]) → Same H H' → Q (.ref R) H')
def sp__law_decode (K : Frg) : Sp := sp1 fun o H Q _ => ∃ (p : Addr) (row : List Int), o = .ref p ∧ H p = some (.lst (row.map V.int)) ∧ row.length ≤ 9000000 ∧
  (∀ (k : Nat) (u : U8) (x : Int) (R q : Addr) (H' : Hp), u8all u80 (row.take k) = some u → row[k]? = some x → (u8take u x).1 = false → H' R = some (.lst [.ref q, .int (k : Nat), .bl false]) → Same H H' → Q (.ref R) H') ∧
  (∀ (u : U8) (R q : Addr) (H' : Hp), u8all u80 row = some u → H' q = some (.lst (u.ps.map V.int)) → H' R = some (.lst [.ref q, .int (-1), .bl (decide (u.ms > 0))]) → Same H H' → Q (.ref R) H')
section
variable {P : Program} {w : World} {K : PySem.W.Frag} {mg : Str → Option Value} {base : Heap} {f : Addr} {fd : FuncData}
theorem ok__law_count (F : FunD K "_law_count" "_law_count" (defArgs s__law_count) (defBody s__law_count) (defScope s__law_count) [] [] (glAd "_law_count" K) fd) (m : mg "_law_count" = some (.ref (glAd "_law_count" K))) (nb : Nm K mg) : Cal P w K mg base 1 "_law_count" (sp__law_count K) [] := by
  refine calD F m sc__law_count (fun _ _ _ _ _ _ us hl => match us, hl with | [_, _], _ => rfl) len2 (fun cdv A outer s H vs Q E hr h => ⟨_, (pss_cons (ps_set (i := 2) sc__law_count.nd rfl (Or.inl rfl) (pe_lstE pa_nil))
    (pss_cons (ps_for PassesOwn.never rfl (pi_range2 rfl nb.range (pa_cons (pv 1) (pa_cons (pe_callB call_len_seq (by rfl) nb.len PySem.boot_len (pa_cons (pv 0) pa_nil)) pa_nil))) (pg_name (i := 3) sc__law_count.nd rfl (Or.inl rfl))
    (pss_cons (ps_if (PW.pt (pw_or (pt_cmpR op_lt (pe_ix ix_list (pv 0) (pv 3) (fun _ _ => rfl)) pe_int (nomark _)) (pw_or (pt_cmpR op_gt (pe_ix ix_list (pv 0) (pv 3) (fun _ _ => rfl)) pe_int (nomark _)) (pw_or1 (pt_cmpR (op_eqD hr.units) (pv 2) (pe_lstE (pa_cons pe_int pa_nil)) (nomark _))))))
    (pss_one ps_break)
    pss_nil)
    (pss_one (ps_expr (pe_bm PySem.F.plainAttrs_list PySem.F.slot_list_append PySem.F.type_list_append mt_append (pv 2) (pa_cons (pe_op op_sub (pe_ix ix_list (pv 0) (pv 3) (fun _ _ => rfl)) pe_int) pa_nil))))))
    (pss_cons (ps_set (i := 4) sc__law_count.nd rfl (Or.inl rfl) pe_int)
    (pss_cons (ps_for PassesOwn.never rfl (pi_list (pv 2)) (pg_name (i := 5) sc__law_count.nd rfl (Or.inl rfl))
    (pss_one (ps_set (i := 4) sc__law_count.nd rfl (Or.inl rfl) (pe_op op_add (pe_op op_mul (pv 4) pe_int) (pv 5)))))
    (pss_one (ps_ret (pe_lstE (pa_cons (pe_cmpR (op_neD hr.units) (pv 2) (pe_lstE pa_nil) (nomark _)) (pa_cons (pv 4) (pa_cons (pe_op op_add (pv 1) (pe_callB call_len_seq (by rfl) nb.len PySem.boot_len (pa_cons (pv 2) pa_nil))) pa_nil)))))))))), ?_⟩)
  obtain ⟨_, _, rfl, p, os, at_, rfl, rfl, hp, hl, ha, h⟩ := h
  -- 0:octets 1:at 2:digits 3:k 4:count 5:digit
  walk_at "rf"
  refine ⟨by show 0 ≤ sizeLine; decide, fun q H1 nq gq s1 => ?_⟩
  walk_at "rf"
  refine ⟨p, _, rfl, .inl (SqL.of (s1 _ _ hp)), ?_⟩
  rw [List.length_map]
  walk_at "rf"
  refine ⟨_, _, rfl, ⟨by omega, by omega, by omega, by omega⟩, ?_⟩
  have em : (((os.length : Nat) : Int) - ((at_ : Nat) : Int)).toNat = os.length - at_ := by omega
  rw [em]
  refine r_turnsR (fun σ H' => ∃ (j : Nat) (y3 : Option V), Dgs os at_ j ∧ H' q = some (.lst ((dls os at_ j).map V.int)) ∧ Same H H' ∧ σ = [some (.ref p), some (.int (at_ : Nat)), some (.ref q), y3, none, none]) ?_ (fun i σ H' => ∃ (y3 : Option V), Dgp os at_ i ∧ H' q = some (.lst ((dls os at_ i).map V.int)) ∧ Same H H' ∧ σ = [some (.ref p), some (.int (at_ : Nat)), some (.ref q), y3, none, none]) ⟨none, ⟨fun i hi => absurd hi (by omega), fun z => absurd z (by omega)⟩, gq, s1, rfl⟩ ?_ ?_
  · rintro σ H2 ⟨j, y3, D, g2, s2, rfl⟩
    walk_at "rf"
    refine ⟨q, rfl, ⟨_, SqL.of g2⟩, ?_⟩
    refine r_eachL (xs := (dls os at_ j).map V.int) (fun i σ H' => H2 = H' ∧ ∃ (y : Option V), σ = [some (.ref p), some (.int (at_ : Nat)), some (.ref q), y3, some (.int (((dls os at_ j).take i).foldl (fun w d => w * 10 + d) 0)), y]) ⟨rfl, none, rfl⟩ (fun i σ H' hh => by rw [← hh.1]; exact SqL.of g2) ?_ ?_
    · rintro i x σ _ hx ⟨rfl, y, rfl⟩
      obtain ⟨d, hd, rfl, et⟩ := ints_get hx
      walk_at "rf"
      refine ⟨rfl, some (.int d), ?_⟩
      rw [et, List.foldl_append]
      rfl
    · rintro σ _ ⟨rfl, y, rfl⟩
      rw [List.length_map, List.take_length, ← cv_dls]
      walk_at "rf"
      refine ⟨by show 0 ≤ sizeLine; decide, fun p3 H3 n3 g3 s3 => ?_⟩
      refine r_neIL (b := []) (SqL.of (s3 _ _ g2)) (SqL.of g3) ?_
      walk_at "rf"
      refine ⟨q, _, rfl, .inl (SqL.of (s3 _ _ g2)), ?_⟩
      rw [List.length_map, dls_len D.1]
      walk_at "rf"
      refine ⟨by show 3 ≤ sizeLine; decide, fun R H4 n4 g4 s4 => ?_⟩
      refine h j R H4 D ?_ (s2.trans (s3.trans s4))
      have e1 : (!decide (dls os at_ j = [])) = decide (j ≠ 0) := by
        have l := dls_len D.1
        by_cases c : j = 0
        · have e0 : dls os at_ j = [] := List.length_eq_zero_iff.mp (by rw [l]; exact c)
          rw [e0, c]
          rfl
        · have n0 : dls os at_ j ≠ [] := fun z => c (by rw [z] at l; exact l.symm)
          simp [n0, c]
      rw [g4, e1]
      rfl
  · rintro n' hM i σ H2 hi ⟨y3, D, g2, s2, rfl⟩
    have ho : os[at_ + i]? = some os[at_ + i] := List.getElem?_eq_getElem (by omega)
    generalize os[at_ + i] = o at ho
    have ek : ((at_ : Nat) : Int) + ((i : Nat) : Int) = ((at_ + i : Nat) : Int) := by omega
    rw [ek]
    have ix : atI (os.map V.int) ((at_ + i : Nat) : Int) = some (V.int o) := atI_nat (by rw [List.getElem?_map, ho]; rfl)
    have hp2 := s2 _ _ hp
    have brk : ∀ H', H' q = some (.lst ((dls os at_ i).map V.int)) → Same H H' → (isDg o = false ∨ (i = 1 ∧ os[at_]? = some 48)) → ∃ (j : Nat) (z3 : Option V), Dgs os at_ j ∧ H' q = some (.lst ((dls os at_ j).map V.int)) ∧ Same H H' ∧ [some (V.ref p), some (.int (at_ : Nat)), some (.ref q), some (.int ((at_ + i : Nat) : Int)), none, none] = [some (.ref p), some (.int (at_ : Nat)), some (.ref q), z3, none, none] := fun H' g s d => ⟨i, _, ⟨by omega, D, .inr ⟨o, ho, d⟩⟩, g, s, rfl⟩
    walk_at "rf"
    refine r_ixL (SqL.of hp2) ix ?_
    walk_at "rf"
    refine r_ite (fun c => ?_) (fun c => ?_)
    · walk_at "rf"
      exact hM _ _ (brk H2 g2 s2 (.inl (not_dg (.inl c))))
    walk_at "rf"
    refine r_ixL (SqL.of hp2) ix ?_
    walk_at "rf"
    refine r_ite (fun c2 => ?_) (fun c2 => ?_)
    · walk_at "rf"
      exact hM _ _ (brk H2 g2 s2 (.inl (not_dg (.inr c2))))
    walk_at "rf"
    refine ⟨by show 1 ≤ sizeLine; decide, fun p3 H3 n3 g3 s3 => ?_⟩
    refine r_eqIL (b := [0]) (SqL.of (s3 _ _ g2)) (SqL.of g3) ?_
    walk_at "rf"
    have s23 := s2.trans s3
    refine r_ite (fun c3 => ?_) (fun c3 => ?_)
    · walk_at "rf"
      exact hM _ _ (brk H3 (s3 _ _ g2) s23 (.inr (dls_zero (by omega) c3)))
    walk_at "rf"
    refine ⟨tyL (s3 _ _ g2), ?_⟩
    walk_at "rf"
    refine r_ixL (SqL.of (s23 _ _ hp)) ix ?_
    walk_at "rf"
    refine r_appE (s3 _ _ g2) (small9m (by rw [List.length_map, dls_len (by omega)]; omega)) fun H4 g4 f4 => ?_
    refine ⟨_, dgp_more D ho (is_dg c c2) c3, ?_, same_but s23 nq f4.1, rfl⟩
    rw [g4, dls_succ ho, List.map_append]
    rfl
  · rintro σ H2 ⟨y3, D, g2, s2, rfl⟩
    exact ⟨os.length - at_, y3, ⟨by omega, D, .inl (by omega)⟩, g2, s2, rfl⟩
theorem ok__law_counted (F : FunD K "_law_counted" "_law_counted" (defArgs s__law_counted) (defBody s__law_counted) (defScope s__law_counted) [] [] (glAd "_law_counted" K) fd) (m : mg "_law_counted" = some (.ref (glAd "_law_counted" K))) (nb : Nm K mg) (c__law_count : Cal P w K mg base 1 "_law_count" (sp__law_count K) []) : Cal P w K mg base 2 "_law_counted" (sp__law_counted K) [] := by
  refine calD F m sc__law_counted (fun _ _ _ _ _ _ us hl => match us, hl with | [_, _], _ => rfl) len2 (fun cdv A outer s H vs Q E hr h => ⟨_, (pss_cons (ps_asg (pe_c c__law_count hr (by decide) rfl (pa_cons (pv 0) (pa_cons (pv 1) pa_nil))) (pg_unl rfl (pgs_cons (pg_name (i := 2) sc__law_counted.nd rfl (Or.inl rfl)) (pgs_cons (pg_name (i := 3) sc__law_counted.nd rfl (Or.inl rfl)) (pgs_cons (pg_name (i := 4) sc__law_counted.nd rfl (Or.inl rfl)) pgs_nil)))))
    (pss_cons (ps_if (PW.pt (pw_or (pt_not (pt_val (pv 2))) (pw_or (pt_cmpR op_eq (pv 4) (pe_callB call_len_seq (by rfl) nb.len PySem.boot_len (pa_cons (pv 0) pa_nil)) (nomark _)) (pw_or1 (pt_cmpR op_ne (pe_ix ix_list (pv 0) (pv 4) (fun _ _ => rfl)) pe_int (nomark _))))))
    (pss_one (ps_ret (pe_lstE (pa_cons pe_bl (pa_cons pe_non (pa_cons (pv 4) pa_nil))))))
    pss_nil)
    (pss_cons (ps_set (i := 5) sc__law_counted.nd rfl (Or.inl rfl) (pe_slice sl_list (pv 0) (po_some (pe_op op_add (pv 4) pe_int)) (po_some (pe_op op_add (pe_op op_add (pv 4) pe_int) (pv 3)))))
    (pss_one (ps_ret (pe_lstE (pa_cons (pe_cmpR op_eq (pe_callB call_len_seq (by rfl) nb.len PySem.boot_len (pa_cons (pv 5) pa_nil)) (pv 3) (nomark _)) (pa_cons (pv 5) (pa_cons (pe_op op_add (pe_op op_add (pv 4) pe_int) (pe_callB call_len_seq (by rfl) nb.len PySem.boot_len (pa_cons (pv 5) pa_nil))) pa_nil))))))))), ?_⟩)
  obtain ⟨_, _, rfl, p, os, at_, rfl, rfl, hp, hl, ha, hb, hg⟩ := h
  -- 0:octets 1:at 2:is_good 3:count 4:place 5:row
  walk_at "rf"
  refine ⟨_, _, rfl, p, os, at_, rfl, rfl, hp, hl, ha, fun j R H1 D g1 s1 => ?_⟩
  refine r_gunl (SqL.of g1) rfl ?_
  walk_at "rf"
  have bad : (j = 0 ∨ at_ + j = os.length ∨ os[at_ + j]? ≠ some 58) → ∀ H2 R2, H2 R2 = some (.lst [.bl false, .non, .int ((at_ + j : Nat) : Int)]) → Same H1 H2 → Q (.ref R2) H2 := fun d H2 R2 g2 s2 => hb j R2 H2 D d g2 (s1.trans s2)
  by_cases c : j = 0
  · rw [if_pos (by rw [decide_eq_false (fun z => z c)]; rfl)]
    walk_at "rf"
    exact ⟨by show 3 ≤ sizeLine; decide, fun R2 H2 n2 g2 s2 => bad (.inl c) H2 R2 g2 s2⟩
  rw [if_neg (by rw [decide_eq_true c]; decide)]
  walk_at "rf"
  refine ⟨p, _, rfl, .inl (SqL.of (s1 _ _ hp)), ?_⟩
  rw [List.length_map]
  walk_at "rf"
  refine r_ite (fun c2 => ?_) (fun c2 => ?_)
  · walk_at "rf"
    exact ⟨by show 3 ≤ sizeLine; decide, fun R2 H2 n2 g2 s2 => bad (.inr (.inl (by omega))) H2 R2 g2 s2⟩
  have dl := D.1
  have hlt : at_ + j < os.length := by omega
  have ho : os[at_ + j]? = some os[at_ + j] := List.getElem?_eq_getElem hlt
  generalize os[at_ + j] = o at ho
  walk_at "rf"
  refine r_ixL (SqL.of (s1 _ _ hp)) (atI_nat (by rw [List.getElem?_map, ho]; rfl)) ?_
  walk_at "rf"
  by_cases c3 : o = 58
  · subst c3
    rw [if_neg (by decide)]
    walk_at "rf"
    obtain ⟨m, em⟩ := Int.eq_ofNat_of_zero_le (cv_nn D.2.1)
    rw [em]
    refine ⟨_, rfl, ?_⟩
    walk_at "rf"
    refine ⟨_, rfl, ?_⟩
    have e1 : ((at_ + j : Nat) : Int) + 1 = ((at_ + j + 1 : Nat) : Int) := by omega
    rw [e1, show ((at_ + j + 1 : Nat) : Int) + (m : Int) = ((at_ + j + 1 + m : Nat) : Int) by omega]
    refine r_slI (s1 _ _ hp) (cut_mid (by omega)) fun q H2 n2 g2 s2 => ?_
    rw [show at_ + j + 1 + m - (at_ + j + 1) = m by omega] at g2
    generalize er : (os.drop (at_ + j + 1)).take m = row at g2
    walk_at "rf"
    refine ⟨q, _, rfl, .inl (SqL.of g2), ?_⟩
    rw [List.length_map]
    walk_at "rf"
    refine ⟨q, _, rfl, .inl (SqL.of g2), ?_⟩
    rw [List.length_map]
    walk_at "rf"
    refine ⟨by show 3 ≤ sizeLine; decide, fun R2 H3 n3 g3 s3 => ?_⟩
    refine hg j R2 q m row H3 D (by omega) ho em er.symm (s3 _ _ g2) ?_ (s1.trans (s2.trans s3))
    have e2 : decide (((row.length : Nat) : Int) = (m : Int)) = decide (row.length = m) := by
      by_cases z : row.length = m
      · rw [decide_eq_true z, decide_eq_true (by omega)]
      · rw [decide_eq_false z, decide_eq_false (by omega)]
    rw [g3, e2]
    rfl
  · rw [if_pos (by rw [decide_eq_false c3]; rfl)]
    walk_at "rf"
    exact ⟨by show 3 ≤ sizeLine; decide, fun R2 H2 n2 g2 s2 => bad (.inr (.inr (by rw [ho]; exact fun z => c3 (by injection z)))) H2 R2 g2 s2⟩
theorem ok__law_decode (F : FunD K "_law_decode" "_law_decode" (defArgs s__law_decode) (defBody s__law_decode) (defScope s__law_decode) [] [] (glAd "_law_decode" K) fd) (m : mg "_law_decode" = some (.ref (glAd "_law_decode" K))) (nb : Nm K mg) : Cal P w K mg base 1 "_law_decode" (sp__law_decode K) [] := by
  refine calD F m sc__law_decode (fun _ _ _ _ _ _ us hl => match us, hl with | [_], _ => rfl) len1 (fun cdv A outer s H vs Q E hr h => ⟨_, (pss_cons (ps_set (i := 1) sc__law_decode.nd rfl (Or.inl rfl) (pe_lstE pa_nil))
    (pss_cons (ps_set (i := 2) sc__law_decode.nd rfl (Or.inl rfl) pe_int)
    (pss_cons (ps_set (i := 3) sc__law_decode.nd rfl (Or.inl rfl) pe_int)
    (pss_cons (ps_set (i := 4) sc__law_decode.nd rfl (Or.inl rfl) pe_int)
    (pss_cons (ps_set (i := 5) sc__law_decode.nd rfl (Or.inl rfl) pe_int)
    (pss_cons (ps_for PassesOwn.never rfl (pi_range1 rfl nb.range (pa_cons (pe_callB call_len_seq (by rfl) nb.len PySem.boot_len (pa_cons (pv 0) pa_nil)) pa_nil)) (pg_name (i := 6) sc__law_decode.nd rfl (Or.inl rfl))
    (pss_cons (ps_set (i := 7) sc__law_decode.nd rfl (Or.inl rfl) (pe_ix ix_list (pv 0) (pv 6) (fun _ _ => rfl)))
    (pss_cut (ps_if (pt_cmpR op_gt (pv 3) pe_int (nomark _))
    (pss_cons (ps_if (PW.pt (pw_or (pt_cmpR op_lt (pv 7) (pv 4) (nomark _)) (pw_or1 (pt_cmpR op_gt (pv 7) (pv 5) (nomark _)))))
    (pss_one (ps_ret (pe_lstE (pa_cons (pv 1) (pa_cons (pv 6) (pa_cons pe_bl pa_nil))))))
    pss_nil)
    (pss_cons (ps_set (i := 2) sc__law_decode.nd rfl (Or.inl rfl) (pe_op op_sub (pe_op op_add (pe_op op_mul (pv 2) pe_int) (pv 7)) pe_int))
    (pss_cons (ps_set (i := 3) sc__law_decode.nd rfl (Or.inl rfl) (pe_op op_sub (pv 3) pe_int))
    (pss_cons (ps_set (i := 4) sc__law_decode.nd rfl (Or.inl rfl) pe_int)
    (pss_one (ps_set (i := 5) sc__law_decode.nd rfl (Or.inl rfl) pe_int))))))
    (pss_one (ps_if (pt_cmpR op_gt (pv 7) pe_int (nomark _))
    (pss_cons (ps_if (PW.pt (pw_or (pt_cmpR op_lt (pv 7) pe_int (nomark _)) (pw_or1 (pt_cmpR op_gt (pv 7) pe_int (nomark _)))))
    (pss_one (ps_ret (pe_lstE (pa_cons (pv 1) (pa_cons (pv 6) (pa_cons pe_bl pa_nil))))))
    pss_nil)
    (pss_cons (ps_set (i := 3) sc__law_decode.nd rfl (Or.inl rfl) (pe_op op_add (pe_op op_add pe_int (pe_callTy call_int1 (by rfl) nb.int (by decide +kernel) (pa_cons (pe_cmpR op_gt (pv 7) pe_int (nomark _)) pa_nil))) (pe_callTy call_int1 (by rfl) nb.int (by decide +kernel) (pa_cons (pe_cmpR op_gt (pv 7) pe_int (nomark _)) pa_nil))))
    (pss_cons (ps_set (i := 4) sc__law_decode.nd rfl (Or.inl rfl) (pe_op op_add (pe_op op_add pe_int (pe_op op_mul pe_int (pe_callTy call_int1 (by rfl) nb.int (by decide +kernel) (pa_cons (pe_cmpR op_eq (pv 7) pe_int (nomark _)) pa_nil)))) (pe_op op_mul pe_int (pe_callTy call_int1 (by rfl) nb.int (by decide +kernel) (pa_cons (pe_cmpR op_eq (pv 7) pe_int (nomark _)) pa_nil)))))
    (pss_cons (ps_set (i := 5) sc__law_decode.nd rfl (Or.inl rfl) (pe_op op_sub (pe_op op_sub pe_int (pe_op op_mul pe_int (pe_callTy call_int1 (by rfl) nb.int (by decide +kernel) (pa_cons (pe_cmpR op_eq (pv 7) pe_int (nomark _)) pa_nil)))) (pe_op op_mul pe_int (pe_callTy call_int1 (by rfl) nb.int (by decide +kernel) (pa_cons (pe_cmpR op_eq (pv 7) pe_int (nomark _)) pa_nil)))))
    (pss_one (ps_set (i := 2) sc__law_decode.nd rfl (Or.inl rfl) (pe_op op_sub (pv 7) (pe_ix ix_list (pe_lstE (pa_cons pe_int (pa_cons pe_int (pa_cons pe_int (pa_cons pe_int pa_nil))))) (pv 3) (fun _ _ => rfl)))))))))
    (pss_one (ps_set (i := 2) sc__law_decode.nd rfl (Or.inl rfl) (pv 7))))))
    (pss_one (ps_if (pt_cmpR op_eq (pv 3) pe_int (nomark _))
    (pss_one (ps_expr (pe_bm PySem.F.plainAttrs_list PySem.F.slot_list_append PySem.F.type_list_append mt_append (pv 1) (pa_cons (pv 2) pa_nil))))
    pss_nil)))))
    (pss_one (ps_ret (pe_lstE (pa_cons (pv 1) (pa_cons (pe_un un_neg pe_int) (pa_cons (pe_cmpR op_gt (pv 3) pe_int (nomark _)) pa_nil)))))))))))), ?_⟩)
  obtain ⟨_, rfl, p, row, rfl, hp, hl, hb, hg⟩ := h
  -- 0:octets 1:points 2:point 3:left 4:low 5:high 6:k 7:octet
  walk_at "rf"
  refine ⟨by show 0 ≤ sizeLine; decide, fun q H1 nq gq s1 => ?_⟩
  walk_at "rf"
  refine ⟨p, _, rfl, .inl (SqL.of (s1 _ _ hp)), ?_⟩
  rw [List.length_map]
  walk_at "rf"
  refine r_turns (by omega) (by omega) (fun i σ H' => ∃ (u : U8) (pt lf lo hi : Int) (y6 y7 : Option V), u8all u80 (row.take i) = some u ∧ 0 ≤ lf ∧ u.ms = lf ∧ (lf > 0 → u.wo = pt ∧ u.le = lo ∧ u.mo = hi) ∧ u.ps.length ≤ i ∧ H' q = some (.lst (u.ps.map V.int)) ∧ Same H H' ∧ σ = [some (.ref p), some (.ref q), some (.int pt), some (.int lf), some (.int lo), some (.int hi), y6, y7]) ⟨u80, 0, 0, 128, 191, none, none, by rw [List.take_zero]; rfl, by decide, rfl, fun z => absurd z (by decide), Nat.zero_le _, gq, s1, rfl⟩ ?_ ?_
  · rintro i σ H2 hi ⟨u, pt, lf, lo, hi_, y6, y7, e, l0, em, er, lu, g2, s2, rfl⟩
    have ho : row[i]? = some row[i] := List.getElem?_eq_getElem (by omega)
    generalize row[i] = o at ho
    walk_at "rf"
    refine r_ixL (SqL.of (s2 _ _ hp)) (atI_nat (by rw [List.getElem?_map, ho]; rfl)) ?_
    walk_at "rg"
    have bad : (u8take u o).1 = false → ∀ R H', H' R = some (.lst [.ref q, .int (i : Nat), .bl false]) → Same H2 H' → Q (.ref R) H' := fun a R H' g s => hb i u o R q H' e ho a g (s2.trans s)
    refine r_cut (fun σ H' => ∃ (pt' lf' lo' hi' : Int), (u8take u o).1 = true ∧ 0 ≤ lf' ∧ (u8take u o).2.ms = lf' ∧ (lf' > 0 → (u8take u o).2.wo = pt' ∧ (u8take u o).2.le = lo' ∧ (u8take u o).2.mo = hi') ∧ (u8take u o).2.ps = (if lf' = 0 then u.ps ++ [pt'] else u.ps) ∧ H' q = some (.lst (u.ps.map V.int)) ∧ Same H H' ∧ σ = [some (.ref p), some (.ref q), some (.int pt'), some (.int lf'), some (.int lo'), some (.int hi'), some (.int (i : Nat)), some (.int o)]) ?_ ?_
    · walk_at "rf"
      refine r_ite (fun c => ?_) (fun c => ?_)
      · obtain ⟨e1, e2, e3⟩ := er c
        have t : u8take u o = u8go u o := by
          unfold u8take
          rw [if_pos (by rw [em]; exact c)]
        walk_at "rf"
        refine r_ite (fun c2 => ?_) (fun c2 => ?_)
        · walk_at "rf"
          refine ⟨by show 3 ≤ sizeLine; decide, fun R H3 n3 g3 s3 => bad ?_ R H3 g3 s3⟩
          rw [t]
          unfold u8go
          rw [if_neg (fun z => by omega)]
        walk_at "rf"
        refine r_ite (fun c3 => ?_) (fun c3 => ?_)
        · walk_at "rf"
          refine ⟨by show 3 ≤ sizeLine; decide, fun R H3 n3 g3 s3 => bad ?_ R H3 g3 s3⟩
          rw [t]
          unfold u8go
          rw [if_neg (fun z => by omega)]
        walk_at "rf"
        have t2 : u8take u o = (true, ⟨if lf - 1 = 0 then u.ps ++ [pt * 64 + o - 128] else u.ps, lf - 1, pt * 64 + o - 128, 128, 191⟩) := by
          rw [t]
          unfold u8go
          rw [if_pos ⟨by omega, by omega⟩, em, e1]
        rw [t2]
        exact ⟨pt * 64 + o - 128, lf - 1, 128, 191, rfl, by omega, rfl, fun _ => ⟨rfl, rfl, rfl⟩, rfl, g2, s2, rfl⟩
      · have lz : lf = 0 := by omega
        subst lz
        have t : u8take u o = if o < 128 then (true, { u with ps := u.ps ++ [o] }) else u8start u o := by
          unfold u8take
          rw [if_neg (by rw [em]; decide)]
        walk_at "rf"
        refine r_ite (fun c2 => ?_) (fun c2 => ?_)
        · rw [if_neg (by omega)] at t
          walk_at "rf"
          refine r_ite (fun c3 => ?_) (fun c3 => ?_)
          · walk_at "rf"
            refine ⟨by show 3 ≤ sizeLine; decide, fun R H3 n3 g3 s3 => bad ?_ R H3 g3 s3⟩
            rw [t]
            exact u8_none u (.inl c3)
          walk_at "rf"
          refine r_ite (fun c4 => ?_) (fun c4 => ?_)
          · walk_at "rf"
            refine ⟨by show 3 ≤ sizeLine; decide, fun R H3 n3 g3 s3 => bad ?_ R H3 g3 s3⟩
            rw [t]
            exact u8_none u (.inr c4)
          rw [u8_start u (by omega) (by omega)] at t
          walk_at "rf"
          refine .inr ⟨_, rfl, ?_⟩
          walk_at "rf"
          refine .inr ⟨_, rfl, ?_⟩
          walk_at "rf"
          refine .inr ⟨_, rfl, ?_⟩
          walk_at "rf"
          refine .inr ⟨_, rfl, ?_⟩
          walk_at "rf"
          refine .inr ⟨_, rfl, ?_⟩
          walk_at "rf"
          refine .inr ⟨_, rfl, ?_⟩
          walk_at "rf"
          refine ⟨by show 4 ≤ sizeLine; decide, fun p3 H3 n3 g3 s3 => ?_⟩
          have g3 : H3 p3 = some (.lst ([0, 192, 224, 240].map V.int)) := g3
          walk_at "rf"
          refine r_ixL (SqL.of g3) (ld_ix o) ?_
          walk_at "rf"
          have l3 := ld_rng o
          rw [t]
          refine ⟨o - lmk o, ld o, llo o, lhi o, rfl, by omega, rfl, fun _ => ⟨rfl, rfl, rfl⟩, ?_, s3 _ _ g2, s2.trans s3, rfl⟩
          rw [if_neg (by omega)]
        · rw [if_pos (by omega)] at t
          walk_at "rf"
          rw [t]
          exact ⟨_, _, _, _, rfl, by decide, em, fun z => absurd z (by decide), by rw [if_pos rfl], g2, s2, rfl⟩
    rintro σ H3 ⟨pt', lf', lo', hi', a, l0', em', er', ps', g3, s3, rfl⟩
    walk_at "rf"
    have un : u8all u80 (row.take (i + 1)) = some (u8take u o).2 := by
      rw [List.take_succ, ho]
      show u8all u80 (row.take i ++ [o]) = _
      rw [u8all_snoc, e]
      show (if (u8take u o).1 = true then some (u8take u o).2 else none) = _
      rw [if_pos a]
    refine r_ite (fun c => ?_) (fun c => ?_)
    · rw [if_pos c] at ps'
      walk_at "rf"
      refine ⟨tyL g3, ?_⟩
      walk_at "rf"
      refine r_appE g3 (small9m (by rw [List.length_map]; omega)) fun H4 g4 f4 => ?_
      refine ⟨(u8take u o).2, _, _, _, _, _, _, un, l0', em', er', by rw [ps', List.length_append]; show _ + 1 ≤ _; omega, ?_, same_but s3 nq f4.1, rfl⟩
      rw [g4, ps', List.map_append]
      rfl
    · rw [if_neg c] at ps'
      walk_at "rf"
      exact ⟨(u8take u o).2, _, _, _, _, _, _, un, l0', em', er', by rw [ps']; omega, by rw [ps']; exact g3, s3, rfl⟩
  · rintro σ H2 ⟨u, pt, lf, lo, hi_, y6, y7, e, l0, em, er, lu, g2, s2, rfl⟩
    simp only [Int.toNat_natCast] at e
    rw [List.take_length] at e
    walk_at "rf"
    refine ⟨by show 3 ≤ sizeLine; decide, fun R H3 n3 g3 s3 => ?_⟩
    refine hg u R q H3 e (s3 _ _ g2) ?_ (s2.trans s3)
    rw [g3, em]
end

/-! ### the law's own reader: numbers, keys, values -/





/-- what a reading function answers: its value and its place, or where the whole is refused -/
def RdOk (K : Frg) (H : Hp) (os : List Int) (at_ : Nat) (s : Sc) (b : Bs) (Q : VK) : Prop := ∀ (v : V) (t : Vl) (pl : Nat) (R : Addr) (H' : Hp), at_ < pl → pl ≤ os.length → RdA os pl (scEndValue (inT s .no pl)) (b.putv t) → H' R = some (.lst [.bl true, v, .int (pl : Nat)]) → Tp H' v t.dat → Same H H' → Q (.ref R) H'
def RdNo (K : Frg) (H : Hp) (os : List Int) (Q : VK) : Prop := ∀ (v : V) (pl : Nat) (R : Addr) (H' : Hp), rdAll os = .inl pl → H' R = some (.lst [.bl false, v, .int (pl : Nat)]) → Same H H' → Q (.ref R) H'
def sp__law_integer_read (K : Frg) : Sp := sp2 fun o a H Q _ => ∃ (p : Addr) (os : List Int) (at_ : Nat) (s : Sc) (b : Bs), o = .ref p ∧ a = .int ((at_ + 1 : Nat) : Int) ∧ H p = some (.lst (os.map V.int)) ∧ os.length ≤ 9000000 ∧ VSt s ∧ RdA os at_ s b ∧ os[at_]? = some 105 ∧ RdOk K H os at_ s b Q ∧ RdNo K H os Q
/-- the keys of a map, as the law keeps them -/
def KeysAt (H : Hp) (k : Addr) (ks : List (List Int)) : Prop := ∃ vs : List V, H k = some (.lst vs) ∧ TpAll H vs (ks.map kd)
def sp__law_key_read (K : Frg) : Sp := sp3 fun o a k H Q _ => ∃ (p : Addr) (os : List Int) (at_ : Nat) (s : Sc) (b : Bs) (kl : Addr) (ks : List (List Int)) (r : List Lv), o = .ref p ∧ a = .int (at_ : Nat) ∧ k = .ref kl ∧ H p = some (.lst (os.map V.int)) ∧ os.length ≤ 9000000 ∧ s.tk = .no ∧ s.wt = "key" ∧ s.lv = ⟨true, ks⟩ :: r ∧ RdA os at_ s b ∧ at_ ≤ os.length ∧ os[at_]? ≠ some 101 ∧ KeysAt H kl ks ∧ ks.length ≤ 9000000 ∧
  (∀ (q : Addr) (key : List Int) (pl : Nat) (R : Addr) (H' : Hp), at_ < pl → pl ≤ os.length → key ∉ ks → RdA os pl (keySt s key pl) (b.run [.ky key]) → H' R = some (.lst [.bl true, .ref q, .int (pl : Nat)]) → H' q = some (.tup (key.map V.int)) → Same H H' → Q (.ref R) H') ∧ RdNo K H os Q
theorem r_two {p : Prop} [Decidable p] {A B : Prop} (h2 : B) (h1 : p → B → A) : if decide p = true then A else B := by
  by_cases c : p
  · rw [if_pos (decide_eq_true c)]
    exact h1 c h2
  · rw [if_neg (by rw [decide_eq_false c]; decide)]
    exact h2
section
variable {P : Program} {w : World} {K : PySem.W.Frag} {mg : Str → Option Value} {base : Heap} {f : Addr} {fd : FuncData}
theorem ok__law_integer_read (F : FunD K "_law_integer_read" "_law_integer_read" (defArgs s__law_integer_read) (defBody s__law_integer_read) (defScope s__law_integer_read) [] [] (glAd "_law_integer_read" K) fd) (m : mg "_law_integer_read" = some (.ref (glAd "_law_integer_read" K))) (nb : Nm K mg) (c__law_normal : Cal P w K mg base 1 "_law_normal" sp__law_normal []) (c__law_count : Cal P w K mg base 1 "_law_count" (sp__law_count K) []) : Cal P w K mg base 2 "_law_integer_read" (sp__law_integer_read K) [] := by
  refine calD F m sc__law_integer_read (fun _ _ _ _ _ _ us hl => match us, hl with | [_, _], _ => rfl) len2 (fun cdv A outer s H vs Q E hr h => ⟨_, (pss_cons (ps_set (i := 2) sc__law_integer_read.nd rfl (Or.inl rfl) (pe_and (pe_cmpR op_lt (pv 1) (pe_callB call_len_seq (by rfl) nb.len PySem.boot_len (pa_cons (pv 0) pa_nil)) (nomark _)) (pe_one (pe_cmpR op_eq (pe_ix ix_list (pv 0) (pv 1) (fun _ _ => rfl)) pe_int (nomark _)))))
    (pss_cons (ps_set (i := 3) sc__law_integer_read.nd rfl (Or.inl rfl) (pe_op op_add (pv 1) (pe_callTy call_int1 (by rfl) nb.int (by decide +kernel) (pa_cons (pv 2) pa_nil))))
    (pss_cons (ps_if (PW.pt (pw_and (pt_val (pv 2)) (pw_and (pt_cmpR op_lt (pv 3) (pe_callB call_len_seq (by rfl) nb.len PySem.boot_len (pa_cons (pv 0) pa_nil)) (nomark _)) (pw_and1 (pt_cmpR op_eq (pe_ix ix_list (pv 0) (pv 3) (fun _ _ => rfl)) pe_int (nomark _))))))
    (pss_one (ps_ret (pe_lstE (pa_cons pe_bl (pa_cons pe_non (pa_cons (pv 3) pa_nil))))))
    pss_nil)
    (pss_cons (ps_asg (pe_c c__law_count hr (by decide) rfl (pa_cons (pv 0) (pa_cons (pv 3) pa_nil))) (pg_unl rfl (pgs_cons (pg_name (i := 4) sc__law_integer_read.nd rfl (Or.inl rfl)) (pgs_cons (pg_name (i := 5) sc__law_integer_read.nd rfl (Or.inl rfl)) (pgs_cons (pg_name (i := 6) sc__law_integer_read.nd rfl (Or.inl rfl)) pgs_nil)))))
    (pss_cons (ps_if (PW.pt (pw_or (pt_not (pt_val (pv 4))) (pw_or (pt_cmpR op_eq (pv 6) (pe_callB call_len_seq (by rfl) nb.len PySem.boot_len (pa_cons (pv 0) pa_nil)) (nomark _)) (pw_or1 (pt_cmpR op_ne (pe_ix ix_list (pv 0) (pv 6) (fun _ _ => rfl)) pe_int (nomark _))))))
    (pss_one (ps_ret (pe_lstE (pa_cons pe_bl (pa_cons pe_non (pa_cons (pv 6) pa_nil))))))
    pss_nil)
    (pss_cons (ps_asg (pe_c c__law_normal hr (by decide) rfl (pa_cons (pe_op op_mul (pe_ix ix_list (pe_lstE (pa_cons pe_int (pa_cons (pe_un un_neg pe_int) pa_nil))) (pe_callTy call_int1 (by rfl) nb.int (by decide +kernel) (pa_cons (pv 2) pa_nil)) (fun _ _ => rfl)) (pv 5)) (pa_cons pe_int pa_nil))) (pg_tup rfl (pgs_cons (pg_name (i := 7) sc__law_integer_read.nd rfl (Or.inl rfl)) (pgs_cons (pg_name (i := 8) sc__law_integer_read.nd rfl (Or.inl rfl)) pgs_nil))))
    (pss_one (ps_ret (pe_lstE (pa_cons (pe_cmpR op_lt (pv 8) pe_int (nomark _)) (pa_cons (pe_tupE (pa_cons pe_str (pa_cons (pv 7) (pa_cons (pv 8) pa_nil)))) (pa_cons (pe_op op_add (pv 6) (pe_callTy call_int1 (by rfl) nb.int (by decide +kernel) (pa_cons (pe_cmpR op_lt (pv 8) pe_int (nomark _)) pa_nil))) pa_nil)))))))))))), ?_⟩)
  obtain ⟨_, _, rfl, p, os, at_, s, b, rfl, rfl, hp, hl, vs, R, h105, hg, hb⟩ := h
  -- 0:octets 1:at 2:is_minus 3:start 4:is_good 5:count 6:place 7:m 8:e
  have R1 := num_start vs R h105
  have la := (List.getElem?_eq_some_iff.mp h105).1
  have s0 : Same H H := fun _ _ z => z
  walk_at "rf"
  refine ⟨p, _, rfl, .inl (SqL.of hp), ?_⟩
  rw [List.length_map]
  walk_at "rg"
  by_cases hm : os[at_ + 1]? = some 45
  · have l1 := (List.getElem?_eq_some_iff.mp hm).1
    rw [if_pos (by rw [decide_eq_true (by omega)])]
    walk_at "rf"
    refine r_ixL (SqL.of hp) (atI_nat (by rw [List.getElem?_map, hm]; rfl)) ?_
    walk_at "rf"
    refine .inr ⟨_, rfl, ?_⟩
    walk_at "rf"
    have R2 := num_minus R1 hm
    have es : ((at_ + 1 : Nat) : Int) + (if decide ((45 : Int) = 45) = true then 1 else 0) = ((at_ + 2 : Nat) : Int) := by
      rw [if_pos (by decide)]
      omega
    rw [es, if_pos (by decide)]
    walk_at "rf"
    refine ⟨p, _, rfl, .inl (SqL.of hp), ?_⟩
    rw [List.length_map]
    walk_at "rg"
    by_cases hz : os[at_ + 2]? = some 48
    · have l2 := (List.getElem?_eq_some_iff.mp hz).1
      rw [if_pos (by rw [decide_eq_true (by omega)])]
      walk_at "rf"
      refine r_ixL (SqL.of hp) (atI_nat (by rw [List.getElem?_map, hz]; rfl)) ?_
      walk_at "rf"
      have nz := num_no R2 hz (fun z => absurd z (by decide)) (fun z => absurd z (by decide)) (fun _ => .inr ⟨rfl, rfl⟩)
      refine ⟨_, rfl, ?_⟩
      walk_at "rf"
      exact ⟨by show 3 ≤ sizeLine; decide, fun R3 H4 n4 g4 s4 => hb .non _ R3 H4 nz g4 s4⟩
    refine r_two ?_ (fun l2 hB => ?_)
    · walk_at "rf"
      refine ⟨_, _, rfl, p, os, (at_ + 2), rfl, rfl, s0 _ _ hp, hl, (by omega), fun j Rr H3 D g3 s3 => ?_⟩
      refine r_gunl (SqL.of g3) rfl ?_
      walk_at "rf"
      obtain ⟨no, yes⟩ := num_all (sg := (-1)) (st := "minus") vs R2 (.inr ⟨rfl, hz⟩) D
      have s03 := (s0).trans s3
      have dl := D.1
      by_cases c : j = 0
      · rw [if_pos (by rw [decide_eq_false (fun z => z c)]; rfl)]
        walk_at "rf"
        exact ⟨by show 3 ≤ sizeLine; decide, fun R3 H4 n4 g4 s4 => hb .non _ R3 H4 (no (.inl c)) g4 (s03.trans s4)⟩
      rw [if_neg (by rw [decide_eq_true c]; decide)]
      walk_at "rf"
      refine ⟨p, _, rfl, .inl (SqL.of (s03 _ _ hp)), ?_⟩
      rw [List.length_map]
      walk_at "rf"
      refine r_ite (fun c2 => ?_) (fun c2 => ?_)
      · walk_at "rf"
        exact ⟨by show 3 ≤ sizeLine; decide, fun R3 H4 n4 g4 s4 => hb .non _ R3 H4 (no (.inr (.inl (by omega)))) g4 (s03.trans s4)⟩
      have hlt : (at_ + 2) + j < os.length := by omega
      have ho : os[(at_ + 2) + j]? = some os[(at_ + 2) + j] := List.getElem?_eq_getElem hlt
      generalize os[(at_ + 2) + j] = o at ho
      walk_at "rf"
      refine r_ixL (SqL.of (s03 _ _ hp)) (atI_nat (by rw [List.getElem?_map, ho]; rfl)) ?_
      walk_at "rf"
      by_cases c3 : o = 101
      · subst c3
        obtain ⟨good, far⟩ := yes (by omega) ho
        rw [if_neg (by decide)]
        walk_at "rf"
        refine ⟨by show 2 ≤ sizeLine; decide, fun p4 H4 n4 g4 s4 => ?_⟩
        have g4 : H4 p4 = some (.lst ([1, -1].map V.int)) := g4
        walk_at "rf"
        refine .inr ⟨_, rfl, ?_⟩
        refine r_ixL (SqL.of g4) (i := 1) (v := .int (-1)) rfl ?_
        walk_at "rf"
        refine ⟨_, _, rfl, .inr ⟨_, _, rfl, rfl, fun p5 m' e' H5 q5 n5 g5 s5 => ?_⟩⟩
        refine r_gtup (SqT.of g5) rfl ?_
        walk_at "rf"
        refine ⟨by show 3 ≤ sizeLine; decide, fun p6 H6 n6 g6 s6 => ?_⟩
        walk_at "rf"
        refine .inr ⟨_, rfl, ?_⟩
        walk_at "rf"
        refine ⟨by show 3 ≤ sizeLine; decide, fun R7 H7 n7 g7 s7 => ?_⟩
        have s07 := s03.trans (s4.trans (s5.trans (s6.trans s7)))
        by_cases c8 : e' < 801
        · rw [decide_eq_true c8, if_pos rfl, show (((at_ + 2) + j : Nat) : Int) + 1 = (((at_ + 2) + j + 1 : Nat) : Int) by omega] at g7
          have q8 : nrm ((-1) * cv os (at_ + 2) j) 0 = (m', e') := q5.resolve_right fun z => by omega
          rw [q8] at good
          exact hg _ _ _ R7 H7 (by omega) (by omega) (good (by show e' ≤ 800; omega)) g7 (.tup (s7 _ _ g6) (.cons (.str _) (.cons (.int _) (.cons (.int _) .nil)))) s07
        · rw [decide_eq_false c8, if_neg (by decide), Int.add_zero] at g7
          have q8 : 800 < (nrm ((-1) * cv os (at_ + 2) j) 0).2 := by
            rcases q5 with q5 | q5
            · rw [q5]
              show 800 < e'
              omega
            · omega
          exact hb _ _ R7 H7 (far q8) g7 s07
      · rw [if_pos (by rw [decide_eq_false c3]; rfl)]
        walk_at "rf"
        exact ⟨by show 3 ≤ sizeLine; decide, fun R3 H4 n4 g4 s4 => hb .non _ R3 H4 (no (.inr (.inr (by rw [ho]; exact fun z => c3 (by injection z))))) g4 (s03.trans s4)⟩
    · have ho : os[at_ + 2]? = some os[at_ + 2] := List.getElem?_eq_getElem (by omega)
      generalize os[at_ + 2] = o at ho
      have o48 : o ≠ 48 := fun z => hz (by rw [← z]; exact ho)
      walk_at "rf"
      refine r_ixL (SqL.of hp) (atI_nat (by rw [List.getElem?_map, ho]; rfl)) ?_
      refine r_c ?_
      refine r_eqI ?_
      rw [decide_eq_false o48]
      exact ⟨false, rfl, hB⟩
  · refine r_two ?_ (fun l1 hB => ?_)
    · walk_at "rf"
      refine .inr ⟨_, rfl, ?_⟩
      walk_at "rf"
      have R2 := R1
      have es : ((at_ + 1 : Nat) : Int) + (if false = true then 1 else 0) = ((at_ + 1 : Nat) : Int) := by
        rw [if_neg (by decide)]
        omega
      rw [es]
      refine ⟨_, _, rfl, p, os, (at_ + 1), rfl, rfl, s0 _ _ hp, hl, (by omega), fun j Rr H3 D g3 s3 => ?_⟩
      refine r_gunl (SqL.of g3) rfl ?_
      walk_at "rf"
      obtain ⟨no, yes⟩ := num_all (sg := 1) (st := "") vs R2 (.inl ⟨rfl, hm⟩) D
      have s03 := (s0).trans s3
      have dl := D.1
      by_cases c : j = 0
      · rw [if_pos (by rw [decide_eq_false (fun z => z c)]; rfl)]
        walk_at "rf"
        exact ⟨by show 3 ≤ sizeLine; decide, fun R3 H4 n4 g4 s4 => hb .non _ R3 H4 (no (.inl c)) g4 (s03.trans s4)⟩
      rw [if_neg (by rw [decide_eq_true c]; decide)]
      walk_at "rf"
      refine ⟨p, _, rfl, .inl (SqL.of (s03 _ _ hp)), ?_⟩
      rw [List.length_map]
      walk_at "rf"
      refine r_ite (fun c2 => ?_) (fun c2 => ?_)
      · walk_at "rf"
        exact ⟨by show 3 ≤ sizeLine; decide, fun R3 H4 n4 g4 s4 => hb .non _ R3 H4 (no (.inr (.inl (by omega)))) g4 (s03.trans s4)⟩
      have hlt : (at_ + 1) + j < os.length := by omega
      have ho : os[(at_ + 1) + j]? = some os[(at_ + 1) + j] := List.getElem?_eq_getElem hlt
      generalize os[(at_ + 1) + j] = o at ho
      walk_at "rf"
      refine r_ixL (SqL.of (s03 _ _ hp)) (atI_nat (by rw [List.getElem?_map, ho]; rfl)) ?_
      walk_at "rf"
      by_cases c3 : o = 101
      · subst c3
        obtain ⟨good, far⟩ := yes (by omega) ho
        rw [if_neg (by decide)]
        walk_at "rf"
        refine ⟨by show 2 ≤ sizeLine; decide, fun p4 H4 n4 g4 s4 => ?_⟩
        have g4 : H4 p4 = some (.lst ([1, -1].map V.int)) := g4
        walk_at "rf"
        refine .inr ⟨_, rfl, ?_⟩
        refine r_ixL (SqL.of g4) (i := 0) (v := .int 1) rfl ?_
        walk_at "rf"
        refine ⟨_, _, rfl, .inr ⟨_, _, rfl, rfl, fun p5 m' e' H5 q5 n5 g5 s5 => ?_⟩⟩
        refine r_gtup (SqT.of g5) rfl ?_
        walk_at "rf"
        refine ⟨by show 3 ≤ sizeLine; decide, fun p6 H6 n6 g6 s6 => ?_⟩
        walk_at "rf"
        refine .inr ⟨_, rfl, ?_⟩
        walk_at "rf"
        refine ⟨by show 3 ≤ sizeLine; decide, fun R7 H7 n7 g7 s7 => ?_⟩
        have s07 := s03.trans (s4.trans (s5.trans (s6.trans s7)))
        by_cases c8 : e' < 801
        · rw [decide_eq_true c8, if_pos rfl, show (((at_ + 1) + j : Nat) : Int) + 1 = (((at_ + 1) + j + 1 : Nat) : Int) by omega] at g7
          have q8 : nrm (1 * cv os (at_ + 1) j) 0 = (m', e') := q5.resolve_right fun z => by omega
          rw [q8] at good
          exact hg _ _ _ R7 H7 (by omega) (by omega) (good (by show e' ≤ 800; omega)) g7 (.tup (s7 _ _ g6) (.cons (.str _) (.cons (.int _) (.cons (.int _) .nil)))) s07
        · rw [decide_eq_false c8, if_neg (by decide), Int.add_zero] at g7
          have q8 : 800 < (nrm (1 * cv os (at_ + 1) j) 0).2 := by
            rcases q5 with q5 | q5
            · rw [q5]
              show 800 < e'
              omega
            · omega
          exact hb _ _ R7 H7 (far q8) g7 s07
      · rw [if_pos (by rw [decide_eq_false c3]; rfl)]
        walk_at "rf"
        exact ⟨by show 3 ≤ sizeLine; decide, fun R3 H4 n4 g4 s4 => hb .non _ R3 H4 (no (.inr (.inr (by rw [ho]; exact fun z => c3 (by injection z))))) g4 (s03.trans s4)⟩
    · have ho : os[at_ + 1]? = some os[at_ + 1] := List.getElem?_eq_getElem (by omega)
      generalize os[at_ + 1] = o at ho
      have o45 : o ≠ 45 := fun z => hm (by rw [← z]; exact ho)
      walk_at "rf"
      refine r_ixL (SqL.of hp) (atI_nat (by rw [List.getElem?_map, ho]; rfl)) ?_
      refine r_c ?_
      refine r_eqI ?_
      rw [decide_eq_false o45]
      exact hB
end

/-! ### the law's own reader: keys -/
section
variable {P : Program} {w : World} {K : PySem.W.Frag} {mg : Str → Option Value} {base : Heap} {f : Addr} {fd : FuncData}
theorem ok__law_key_read (F : FunD K "_law_key_read" "_law_key_read" (defArgs s__law_key_read) (defBody s__law_key_read) (defScope s__law_key_read) [] [] (glAd "_law_key_read" K) fd) (m : mg "_law_key_read" = some (.ref (glAd "_law_key_read" K))) (nb : Nm K mg) (c__law_decode : Cal P w K mg base 1 "_law_decode" (sp__law_decode K) []) (c__law_counted : Cal P w K mg base 2 "_law_counted" (sp__law_counted K) []) : Cal P w K mg base 3 "_law_key_read" (sp__law_key_read K) [] := by
  refine calD F m sc__law_key_read (fun _ _ _ _ _ _ us hl => match us, hl with | [_, _, _], _ => rfl) len3 (fun cdv A outer s H vs Q E hr h => ⟨_, (pss_cons (ps_asg (pe_c c__law_counted hr (by decide) rfl (pa_cons (pv 0) (pa_cons (pv 1) pa_nil))) (pg_unl rfl (pgs_cons (pg_name (i := 3) sc__law_key_read.nd rfl (Or.inl rfl)) (pgs_cons (pg_name (i := 4) sc__law_key_read.nd rfl (Or.inl rfl)) (pgs_cons (pg_name (i := 5) sc__law_key_read.nd rfl (Or.inl rfl)) pgs_nil)))))
    (pss_cons (ps_if (pt_cmpR op_isN (pv 4) pe_non (nomark _))
    (pss_one (ps_ret (pe_lstE (pa_cons pe_bl (pa_cons pe_non (pa_cons (pv 5) pa_nil))))))
    pss_nil)
    (pss_cons (ps_asg (pe_c c__law_decode hr (by decide) rfl (pa_cons (pv 4) pa_nil)) (pg_unl rfl (pgs_cons (pg_name (i := 6) sc__law_key_read.nd rfl (Or.inl rfl)) (pgs_cons (pg_name (i := 7) sc__law_key_read.nd rfl (Or.inl rfl)) (pgs_cons (pg_name (i := 8) sc__law_key_read.nd rfl (Or.inl rfl)) pgs_nil)))))
    (pss_cons (ps_if (pt_cmpR op_gt (pv 7) (pe_un un_neg pe_int) (nomark _))
    (pss_one (ps_ret (pe_lstE (pa_cons pe_bl (pa_cons pe_non (pa_cons (pe_op op_add (pe_op op_sub (pv 5) (pe_callB call_len_seq (by rfl) nb.len PySem.boot_len (pa_cons (pv 4) pa_nil))) (pv 7)) pa_nil))))))
    pss_nil)
    (pss_cons (ps_if (PW.pt (pw_and (pt_val (pv 3)) (pw_and1 (PW.pt (pw_or (pt_val (pv 8)) (pw_or1 (pt_cmpR (op_inD (hu65 hr)) (pe_callTy call_tuple_ofE (by rfl) nb.tuple (by decide +kernel) (pa_cons (pv 6) pa_nil)) (pv 2) rfl)))))))
    (pss_one (ps_ret (pe_lstE (pa_cons pe_bl (pa_cons pe_non (pa_cons (pe_op op_sub (pv 5) pe_int) pa_nil))))))
    pss_nil)
    (pss_one (ps_ret (pe_lstE (pa_cons (pv 3) (pa_cons (pe_callTy call_tuple_ofE (by rfl) nb.tuple (by decide +kernel) (pa_cons (pv 6) pa_nil)) (pa_cons (pv 5) pa_nil))))))))))), ?_⟩)
  obtain ⟨_, _, _, rfl, p, os, at_, s, b, kl, ks, r, rfl, rfl, rfl, hp, hl, tk, wt, lv, R, ha, h101, hk, hkl, hg, hb⟩ := h
  -- 0:octets 1:at 2:keys 3:is_good 4:row 5:place 6:points 7:fault 8:is_open
  have B := beg_key tk wt h101
  have wn : s.wt ≠ "nothing" := by rw [wt]; decide +kernel
  walk_at "rf"
  refine ⟨_, _, rfl, p, os, at_, rfl, rfl, hp, hl, ha, fun j R1 H1 D d g1 s1 => ?_, fun j R1 q1 m row H1 D hj h58 em er gq g1 s1 => ?_⟩
  · refine r_gunl (SqL.of g1) rfl ?_
    walk_at "rf"
    refine ⟨_, rfl, ?_⟩
    walk_at "rf"
    exact ⟨by show 3 ≤ sizeLine; decide, fun R2 H2 n2 g2 s2 => hb .non _ R2 H2 (cnt_bad R B D d) g2 (s1.trans s2)⟩
  refine r_gunl (SqL.of g1) rfl ?_
  walk_at "rf"
  have R2 := dg_run R B D.2.1 hj
  have tc := cnt_col R B D.2.1 hj
  rw [em] at R2 tc
  have dl := D.1
  have l58 := (List.getElem?_eq_some_iff.mp h58).1
  have lr : row.length ≤ m ∧ at_ + j + 1 + row.length ≤ os.length ∧ (row.length < m → at_ + j + 1 + row.length = os.length) := by
    rw [er, List.length_take, List.length_drop]
    omega
  have R3 : 0 < m → RdA os (at_ + j + 1) (inT s (kyT [] m u80) (at_ + j + 1)) b := fun hm => by
    refine R2.step h58 (go_on (mk_key.no _) (t' := kyT [] m u80) ?_ rfl) b rfl _ rfl
    rw [tc, decide_eq_false (by omega)]
    rfl
  have rt : ∀ k, k ≤ m → (os.drop (at_ + j + 1)).take k = row.take k := fun k hk => by
    rw [er, List.take_take, Nat.min_eq_left hk]
  have rw_ : row.length = m → (os.drop (at_ + j + 1)).take m = row := fun _ => er.symm
  refine r_iteN (fun e => by cases e) ?_
  walk_at "rf"
  refine ⟨_, rfl, q1, row, rfl, gq, by omega, fun k u x R4 q3 H3 eu hx ux g3 s3 => ?_, fun u R4 q3 H3 eu g3q g3 s3 => ?_⟩
  · have s13 := s1.trans s3
    have lk := (List.getElem?_eq_some_iff.mp hx).1
    have bad : rdAll os = .inl (at_ + j + 1 + k) := by
      refine key_bad (R3 (by omega)) (k := k) (u := u) (o := x) (by omega) (by rw [rt k (by omega)]; exact eu) ?_ ux
      rw [← drop_get]
      rw [er, List.getElem?_take] at hx
      rw [if_pos (by omega)] at hx
      exact hx
    refine r_gunl (SqL.of g3) rfl ?_
    walk_at "rf"
    rw [if_pos (by rw [decide_eq_true]; omega)]
    walk_at "rf"
    refine ⟨q1, _, rfl, .inl (SqL.of (s3 _ _ gq)), ?_⟩
    rw [List.length_map]
    walk_at "rf"
    refine ⟨by show 3 ≤ sizeLine; decide, fun R5 H5 n5 g5 s5 => hb .non _ R5 H5 bad ?_ (s13.trans s5)⟩
    rw [g5, show ((at_ + j + 1 + row.length : Nat) : Int) - ((row.length : Nat) : Int) + ((k : Nat) : Int) = ((at_ + j + 1 + k : Nat) : Int) by omega]
  · have s13 := s1.trans s3
    refine r_gunl (SqL.of g3) rfl ?_
    walk_at "rf"
    rw [if_neg (by decide)]
    walk_at "rf"
    obtain ⟨vs, hvs, tvs⟩ := hk
    have fr : ∀ k, scFresh s.lv k = !decide (k ∈ ks) := fun k => by rw [lv]; rfl
    by_cases cm : row.length = m
    · rw [if_pos (by rw [decide_eq_true cm])]
      walk_at "rf"
      by_cases cu : u.ms > 0
      · have m0 : 0 < m := by
          by_cases z : m = 0
          · rw [z] at cm
            rw [List.length_eq_zero_iff.mp cm] at eu
            cases eu
            exact absurd cu (by decide)
          · omega
        have bad := (key_end (R3 m0) m0 (by omega) (by rw [rw_ cm]; exact eu)).1 cu
        rw [if_pos (by rw [decide_eq_true cu])]
        walk_at "rf"
        refine ⟨by show 3 ≤ sizeLine; decide, fun R5 H5 n5 g5 s5 => hb .non _ R5 H5 bad ?_ (s13.trans s5)⟩
        rw [g5, cm, show ((at_ + j + 1 + m : Nat) : Int) - 1 = ((at_ + j + 1 + m - 1 : Nat) : Int) by omega]
      rw [if_neg (by rw [decide_eq_false cu]; decide)]
      walk_at "rf"
      refine r_toT (SqL.of g3q) fun t H4 nt gt s4 => ?_
      have s14 := s13.trans s4
      walk_at "rf"
      refine ⟨kd u.ps, ks.map kd, Tp.dp _ _ (tp_kd gt), .lst (SqL.of (s14 _ _ hvs)) (TpAll.dp _ _ (TpAll.tk (Same.tk s14) _ _ tvs)), shaped_kd _, shaped_kds _, ?_⟩
      rw [eqv_kds]
      walk_at "rf"
      refine r_ite (fun c => ?_) (fun c => ?_)
      · have bad : rdAll os = .inl (at_ + j + 1 + m - 1) := by
          by_cases z : m = 0
          · have eu2 : u = u80 := by
              rw [z] at cm
              rw [List.length_eq_zero_iff.mp cm] at eu
              injection eu with eu
              exact eu.symm
            rw [z] at R2 ⊢
            refine (key_nil R2 h58 rfl).1 ?_
            rw [fr, decide_eq_true (by rw [eu2] at c; exact c)]
            rfl
          · exact (key_end (R3 (by omega)) (by omega) (by omega) (by rw [rw_ cm]; exact eu)).2.1 cu (by rw [fr, decide_eq_true c]; rfl)
        walk_at "rf"
        refine ⟨by show 3 ≤ sizeLine; decide, fun R5 H5 n5 g5 s5 => hb .non _ R5 H5 bad ?_ (s14.trans s5)⟩
        rw [g5, cm, show ((at_ + j + 1 + m : Nat) : Int) - 1 = ((at_ + j + 1 + m - 1 : Nat) : Int) by omega]
      · have good : RdA os (at_ + j + 1 + m) (keySt s u.ps (at_ + j + 1 + m)) (b.run [.ky u.ps]) := by
          by_cases z : m = 0
          · have eu2 : u = u80 := by
              rw [z] at cm
              rw [List.length_eq_zero_iff.mp cm] at eu
              injection eu with eu
              exact eu.symm
            have c2 : ([] : List Int) ∉ ks := by rw [eu2] at c; exact c
            rw [z] at R2
            rw [z, eu2]
            exact (key_nil R2 h58 rfl).2 (by rw [fr, decide_eq_false c2]; rfl)
          · exact (key_end (R3 (by omega)) (by omega) (by omega) (by rw [rw_ cm]; exact eu)).2.2 cu (by rw [fr, decide_eq_false c]; rfl)
        walk_at "rf"
        refine r_toT (SqL.of (s4 _ _ g3q)) fun t2 H5 nt2 gt2 s5 => ?_
        walk_at "rf"
        refine ⟨by show 3 ≤ sizeLine; decide, fun R6 H6 n6 g6 s6 => hg t2 u.ps (at_ + j + 1 + m) R6 H6 (by omega) (by omega) c good ?_ (s6 _ _ gt2) (s14.trans (s5.trans s6))⟩
        rw [g6, cm, decide_eq_true rfl]
    · have lt : row.length < m := by omega
      have le := lr.2.2 lt
      have bad : rdAll os = .inl (at_ + j + 1 + row.length) := by
        have q := row_key (R3 (by omega)) row.length u lt (by omega) (by rw [rt row.length (by omega), List.take_length]; exact eu)
        exact q.over le (fun z => wn z)
      rw [if_neg (by rw [decide_eq_false cm]; decide)]
      walk_at "rf"
      refine r_toT (SqL.of g3q) fun t2 H5 nt2 gt2 s5 => ?_
      walk_at "rf"
      refine ⟨by show 3 ≤ sizeLine; decide, fun R6 H6 n6 g6 s6 => hb (.ref t2) _ R6 H6 bad ?_ (s13.trans (s5.trans s6))⟩
      rw [g6, decide_eq_false cm]
end

/-! ### the law's own reader: values and their parts call each other -/
theorem r_turnsO {σ : St} {H : Hp} {n : St → Hp → Prop} {r : VK} {j : Int} {g : TG} {tb : TS} (h1 : -(2 ^ 62) ≤ j) (h2 : j < 2 ^ 62) (M : St → Hp → Prop) (hM : ∀ σ H, M σ H → n σ H) (Pv : Nat → St → Hp → Prop) (h0 : Pv 0 σ H)
    (hs : ∀ n' : St → Hp → Prop, (∀ σ H, M σ H → n' σ H) → ∀ (i : Nat) σ H, (i : Int) < j → Pv i σ H → g (.int (i : Int)) σ H fun σ2 H2 => tb ⟨Pv (i + 1), r, n', Pv (i + 1)⟩ σ2 H2) (hd : ∀ σ H, Pv j.toNat σ H → M σ H) :
    -(2 ^ 62) ≤ j ∧ j < 2 ^ 62 ∧ ∃ W : Nat → Nat → St → Hp → Prop, (∃ m, W 0 m σ H) ∧ ∀ i m σ H, W i m σ H →
    ((Itr 0 j.toNat).stop i H ∧ n σ H) ∨ ((Itr 0 j.toNat).go i H ∧ ∃ N : St → Hp → Prop, (∀ σ' H', N σ' H' → ∃ m', m' < m ∧ W (i + 1) m' σ' H') ∧ ∀ x H', (Itr 0 j.toNat).yld i H x H' → g x σ H' fun σ2 H2 => tb ⟨N, r, n, N⟩ σ2 H2) :=
  r_turnsB h1 h2 M hM Pv h0 (hs n) hd
def partSt (s : Sc) (m : Bool) (ks : List (List Int)) (i : Nat) : Sc := { s with tk := .no, lv := ⟨m, ks⟩ :: s.lv, wt := if m = true then "key" else "value", pl := i }
def sp__law_value_read (K : Frg) (n : Nat) : Sp := sp3 fun o a l H Q _ => ∃ (p : Addr) (os : List Int) (at_ left : Nat) (s : Sc) (b : Bs), o = .ref p ∧ a = .int (at_ : Nat) ∧ l = .int (left : Nat) ∧ left < n ∧ H p = some (.lst (os.map V.int)) ∧ os.length ≤ 9000000 ∧ at_ ≤ os.length ∧ VSt s ∧ s.lv.length + left = 24 ∧ RdA os at_ s b ∧ (os[at_]? = some 101 → s.wt = "entry" ∨ s.lv = []) ∧ RdOk K H os at_ s b Q ∧ RdNo K H os Q
theorem no__law_value_read {K : Frg} {vs : List V} {H : Hp} {Q : VK} {E : XK} (h : sp__law_value_read K 0 vs H Q E) : False := by
  obtain ⟨_, _, _, rfl, p, os, at_, left, s, b, _, _, _, h, _⟩ := h
  exact absurd h (Nat.not_lt_zero _)
def sp__law_parts_read (K : Frg) (n : Nat) : Sp := sp4 fun o a l m H Q _ => ∃ (p : Addr) (os : List Int) (at_ left : Nat) (mm : Bool) (s : Sc) (b : Bs), o = .ref p ∧ a = .int (at_ : Nat) ∧ l = .int (left : Nat) ∧ m = .bl mm ∧ left < n ∧ H p = some (.lst (os.map V.int)) ∧ os.length ≤ 9000000 ∧ at_ ≤ os.length ∧ s.lv.length + 1 + left = 24 ∧ RdA os at_ (partSt s mm [] at_) ⟨⟨mm, none, []⟩ :: b.fs, b.val⟩ ∧ RdOk K H os at_ s b Q ∧ RdNo K H os Q
section
variable {P : Program} {w : World} {K : PySem.W.Frag} {mg : Str → Option Value} {base : Heap} {f : Addr} {fd fd2 : FuncData}
theorem ok__law_parts_read (n : Nat) (F : FunD K "_law_parts_read" "_law_parts_read" (defArgs s__law_parts_read) (defBody s__law_parts_read) (defScope s__law_parts_read) [] [] (glAd "_law_parts_read" K) fd) (m : mg "_law_parts_read" = some (.ref (glAd "_law_parts_read" K))) (nb : Nm K mg)
    (c__law_key_read : Cal P w K mg base 3 "_law_key_read" (sp__law_key_read K) []) (c__law_value_read : Cal P w K mg base (10 + 2 * n) "_law_value_read" (sp__law_value_read K n) []) : Cal P w K mg base (10 + 2 * n + 1) "_law_parts_read" (sp__law_parts_read K n) [] := by
  refine calD F m sc__law_parts_read (fun _ _ _ _ _ _ us hl => match us, hl with | [_, _, _, _], _ => rfl) len4 (fun cdv A outer s H vs Q E hr h => ⟨_, (pss_cons (ps_set (i := 4) sc__law_parts_read.nd rfl (Or.inl rfl) (pv 1))
    (pss_cons (ps_set (i := 5) sc__law_parts_read.nd rfl (Or.inr rfl) (pe_lstE pa_nil))
    (pss_cons (ps_set (i := 6) sc__law_parts_read.nd rfl (Or.inr rfl) (pe_lstE pa_nil))
    (pss_cons (ps_for PassesOwn.never rfl (pi_range1 rfl nb.range (pa_cons (pe_op op_add (pe_callB call_len_seq (by rfl) nb.len PySem.boot_len (pa_cons (pv 0) pa_nil)) pe_int) pa_nil)) (pg_name (i := 7) sc__law_parts_read.nd rfl (Or.inl rfl))
    (pss_cons (ps_if (PW.pt (pw_and (pt_cmpR op_lt (pv 4) (pe_callB call_len_seq (by rfl) nb.len PySem.boot_len (pa_cons (pv 0) pa_nil)) (nomark _)) (pw_and1 (pt_cmpR op_eq (pe_ix ix_list (pv 0) (pv 4) (fun _ _ => rfl)) pe_int (nomark _)))))
    (pss_one ps_break)
    pss_nil)
    (pss_cons (ps_if (pt_val (pv 3))
    (pss_cons (ps_asg (pe_c c__law_key_read hr (by omega) rfl (pa_cons (pv 0) (pa_cons (pv 4) (pa_cons (pv 5) pa_nil)))) (pg_unl rfl (pgs_cons (pg_name (i := 8) sc__law_parts_read.nd rfl (Or.inl rfl)) (pgs_cons (pg_name (i := 9) sc__law_parts_read.nd rfl (Or.inl rfl)) (pgs_cons (pg_name (i := 4) sc__law_parts_read.nd rfl (Or.inl rfl)) pgs_nil)))))
    (pss_cons (ps_if (pt_not (pt_val (pv 8)))
    (pss_one (ps_ret (pe_lstE (pa_cons pe_bl (pa_cons pe_non (pa_cons (pv 4) pa_nil))))))
    pss_nil)
    (pss_one (ps_expr (pe_bm PySem.F.plainAttrs_list PySem.F.slot_list_append PySem.F.type_list_append mt_append (pv 5) (pa_cons (pv 9) pa_nil))))))
    pss_nil)
    (pss_cons (ps_asg (pe_c c__law_value_read hr (by omega) rfl (pa_cons (pv 0) (pa_cons (pv 4) (pa_cons (pv 2) pa_nil)))) (pg_unl rfl (pgs_cons (pg_name (i := 8) sc__law_parts_read.nd rfl (Or.inl rfl)) (pgs_cons (pg_name (i := 10) sc__law_parts_read.nd rfl (Or.inl rfl)) (pgs_cons (pg_name (i := 4) sc__law_parts_read.nd rfl (Or.inl rfl)) pgs_nil)))))
    (pss_cons (ps_if (pt_not (pt_val (pv 8)))
    (pss_one (ps_ret (pe_lstE (pa_cons pe_bl (pa_cons pe_non (pa_cons (pv 4) pa_nil))))))
    pss_nil)
    (pss_one (ps_expr (pe_bm PySem.F.plainAttrs_list PySem.F.slot_list_append PySem.F.type_list_append mt_append (pv 6) (pa_cons (pv 10) pa_nil)))))))))
    (pss_cons (ps_if (pt_val (pv 3))
    (pss_one (ps_ret (pe_lstE (pa_cons pe_bl (pa_cons (pe_tupE (pa_cons pe_str (pa_cons (pe_callTy call_tuple_ofE (by rfl) nb.tuple (by decide +kernel) (pa_cons (pe_callB (cr_sortedE hr.units) (by rfl) nb.sorted (by decide +kernel) (pa_cons (pe_lc (own := [("k", 7)]) (g := gName 7) (tt := tYes) rfl sc__law_parts_read.nd (pi_range1 rfl nb.range (pa_cons (pe_callB call_len_seq (by rfl) nb.len PySem.boot_len (pa_cons (pv 5) pa_nil)) pa_nil)) (blkOk_by (N := ["octets", "at", "left", "is_map", "place", "keys", "items", "k", "is_good", "key", "item"]) (sc := defScope s__law_parts_read) (by decide +kernel)) (fun _ _ _ _ _ => pg_name (i := 7) sc__law_parts_read.nd rfl (Or.inl rfl)) (fun _ _ _ _ _ => pts_nil) (fun _ _ _ _ _ => (pe_tupE (pa_cons (pe_ix (show IxR _ (rIxL K) from ix_list) (pv 5) (pv 7) (fun _ _ => rfl)) (pa_cons (pe_ix (show IxR _ (rIxL K) from ix_list) (pv 6) (pv 7) (fun _ _ => rfl)) pa_nil))))) pa_nil)) pa_nil)) pa_nil))) (pa_cons (pe_op op_add (pv 4) pe_int) pa_nil))))))
    pss_nil)
    (pss_one (ps_ret (pe_lstE (pa_cons pe_bl (pa_cons (pe_tupE (pa_cons pe_str (pa_cons (pe_callTy call_tuple_ofE (by rfl) nb.tuple (by decide +kernel) (pa_cons (pv 6) pa_nil)) pa_nil))) (pa_cons (pe_op op_add (pv 4) pe_int) pa_nil))))))))))), ?_⟩)
  obtain ⟨_, _, _, _, rfl, p, os, at_, left, mm, s, b, rfl, rfl, rfl, rfl, hn, hp, hl, ha, lv, R, hg, hb⟩ := h
  -- 0:octets 1:at 2:left 3:is_map 4:place 5:keys 6:items 7:k 8:is_good 9:key 10:item
  walk_at "rf"
  refine ⟨by show 0 ≤ sizeLine; decide, fun kl H1 nk gk s1 => ?_⟩
  walk_at "rf"
  refine ⟨by show 0 ≤ sizeLine; decide, fun il H2 ni gi s2 => ?_⟩
  have s02 := s1.trans s2
  have ne : kl ≠ il := Same.ne ni gk
  have ni0 : H il = none := s1.free ni
  have gk2 := s2 _ _ gk
  walk_at "rf"
  refine ⟨p, _, rfl, .inl (SqL.of (s02 _ _ hp)), ?_⟩
  rw [List.length_map]
  walk_at "rf"
  cases mm with
  | false =>
    refine r_turnsO (by omega) (by omega) (fun σ H' => ∃ (pl : Nat) (ts : List Vl) (vs : List V) (y6 y7 y8 y9 : Option V), at_ ≤ pl ∧ pl < os.length ∧ os[pl]? = some 101 ∧ ts.length ≤ 9000000 ∧ RdA os pl (partSt s false [] pl) ⟨⟨false, none, ts.map fun x => (([] : List Int), x)⟩ :: b.fs, b.val⟩ ∧ H' il = some (.lst vs) ∧ TpAll H' vs (datL ts) ∧ Same H H' ∧ σ = [some (.ref p), some (.int (at_ : Nat)), some (.int (left : Nat)), some (.bl false), some (.int (pl : Nat)), some (.ref kl), some (.ref il), y6, y7, y8, y9]) ?_ (fun i σ H' => ∃ (pl : Nat) (ts : List Vl) (vs : List V) (y6 y7 y8 y9 : Option V), at_ + i ≤ pl ∧ pl ≤ os.length ∧ ts.length ≤ pl ∧ RdA os pl (partSt s false [] pl) ⟨⟨false, none, ts.map fun x => (([] : List Int), x)⟩ :: b.fs, b.val⟩ ∧ H' il = some (.lst vs) ∧ TpAll H' vs (datL ts) ∧ Same H H' ∧ σ = [some (.ref p), some (.int (at_ : Nat)), some (.int (left : Nat)), some (.bl false), some (.int (pl : Nat)), some (.ref kl), some (.ref il), y6, y7, y8, y9]) ⟨at_, [], [], none, none, none, none, Nat.le_refl _, ha, Nat.zero_le _, R, gi, .nil, s02, rfl⟩ ?_ ?_
    · rintro σ H3 ⟨pl, ts, vs, y6, y7, y8, y9, h1, h2, h3, tl, R3, g3, t3, s3, rfl⟩
      have R5 := close_run (s := partSt s false [] pl) rfl (by show ("value" : Str) ≠ "entry"; decide +kernel) rfl rfl R3 h3
      walk_at "rf"
      refine r_toT (SqL.of g3) fun q H4 nq gq s4 => ?_
      walk_at "rf"
      refine ⟨by show 2 ≤ sizeLine; decide, fun v H5 n5 g5 s5 => ?_⟩
      walk_at "rf"
      refine ⟨by show 3 ≤ sizeLine; decide, fun R6 H6 n6 g6 s6 => ?_⟩
      have s36 := s4.trans (s5.trans s6)
      have eb : (Pf.mk false none (ts.map fun x => (([] : List Int), x))).built = .ls ts := by
        show Vl.ls ((ts.map fun x => (([] : List Int), x)).map fun y : List Int × Vl => y.2) = _
        rw [List.map_map]
        have e3 : ts.map ((fun x : List Int × Vl => x.2) ∘ fun x : Vl => (([] : List Int), x)) = ts := by
          rw [show ((fun x : List Int × Vl => x.2) ∘ fun x : Vl => (([] : List Int), x)) = id from rfl, List.map_id]
        rw [e3]
      rw [eb] at R5
      refine hg (.ref v) (.ls ts) (pl + 1) R6 H6 (by omega) (by omega) R5 ?_ (.tup (s6 _ _ g5) (.cons (.str _) (.cons (.tup ((s5.trans s6) _ _ gq) (TpAll.tk (Same.tk s36) _ _ t3)) .nil))) (s3.trans s36)
      rw [g6]
      rfl
    · rintro n' hM i σ H3 hi ⟨pl, ts, vs, y6, y7, y8, y9, h1, h2, tl, R3, g3, t3, s3, rfl⟩
      walk_at "rf"
      refine ⟨p, _, rfl, .inl (SqL.of (s3 _ _ hp)), ?_⟩
      rw [List.length_map]
      walk_at "rg"
      by_cases h101 : os[pl]? = some 101
      · have l1 := (List.getElem?_eq_some_iff.mp h101).1
        rw [if_pos (by rw [decide_eq_true (by omega)])]
        walk_at "rf"
        refine r_ixL (SqL.of (s3 _ _ hp)) (atI_nat (by rw [List.getElem?_map, h101]; rfl)) ?_
        walk_at "rf"
        exact hM _ _ ⟨pl, ts, vs, _, _, _, _, by omega, l1, h101, by omega, R3, g3, t3, s3, rfl⟩
      refine r_two ?_ (fun l1 hB => ?_)
      · walk_at "rf"
        refine ⟨_, _, _, rfl, p, os, pl, left, partSt s false [] pl, _, rfl, rfl, rfl, hn, s3 _ _ hp, hl, h2, ⟨rfl, .inl rfl⟩, by show s.lv.length + 1 + left = 24; exact lv, R3, fun z => absurd z h101, fun v t pl2 R4 H4 l1 l2 R5 g4 t4 s4 => ?_, fun v pl2 R4 H4 e4 g4 s4 => ?_⟩
        · refine r_gunl (SqL.of g4) rfl ?_
          walk_at "rf"
          have g34 := s4 _ _ g3
          have s04 := s3.trans s4
          refine ⟨tyL g34, ?_⟩
          walk_at "rf"
          refine r_appE g34 (small9m (by rw [tpAll_len t3, datL_map, List.length_map]; omega)) fun H5 g5 f5 => ?_
          have s05 := same_but s04 ni0 f5.1
          have tk5 : Tk H4 H5 := (Ch.eb (o := [il]) f5 (by simp) Ch.refl).tk
          refine ⟨pl2, ts ++ [t], vs ++ [v], _, _, _, _, by omega, l2, by rw [List.length_append]; show _ + 1 ≤ _; omega, ?_, g5, ?_, s05, rfl⟩
          · rw [List.map_append]
            exact R5
          · rw [datL_map, List.map_append, ← datL_map]
            exact tpAll_app (TpAll.tk ((Same.tk s4).trans tk5) _ _ t3) (.cons (Tp.tk tk5 _ _ t4) .nil)
        · refine r_gunl (SqL.of g4) rfl ?_
          walk_at "rf"
          exact ⟨by show 3 ≤ sizeLine; decide, fun R6 H6 n6 g6 s6 => hb .non pl2 R6 H6 e4 g6 (s3.trans (s4.trans s6))⟩
      · have ho : os[pl]? = some os[pl] := List.getElem?_eq_getElem (by omega)
        generalize os[pl] = o at ho
        have o101 : o ≠ 101 := fun z => h101 (by rw [← z]; exact ho)
        walk_at "rf"
        refine r_ixL (SqL.of (s3 _ _ hp)) (atI_nat (by rw [List.getElem?_map, ho]; rfl)) ?_
        refine r_c ?_
        refine r_eqI ?_
        rw [decide_eq_false o101]
        exact ⟨false, rfl, hB⟩
    · rintro σ H3 ⟨pl, ts, vs, y6, y7, y8, y9, h1, h2, tl, R3, g3, t3, s3, rfl⟩
      omega
  | true =>
    refine r_turnsO (by omega) (by omega) (fun σ H' => ∃ (pl : Nat) (ks : List (List Int)) (kk : Option (List Int)) (ts : List Vl) (us vs : List V) (y6 y7 y8 y9 : Option V), at_ ≤ pl ∧ pl < os.length ∧ os[pl]? = some 101 ∧ ts.length ≤ 9000000 ∧ ks.length = ts.length ∧ ks.Nodup ∧ RdA os pl (partSt s true ks pl) ⟨⟨true, kk, ks.zip ts⟩ :: b.fs, b.val⟩ ∧ H' kl = some (.lst us) ∧ TpAll H' us (ks.map kd) ∧ H' il = some (.lst vs) ∧ TpAll H' vs (datL ts) ∧ Same H H' ∧ σ = [some (.ref p), some (.int (at_ : Nat)), some (.int (left : Nat)), some (.bl true), some (.int (pl : Nat)), some (.ref kl), some (.ref il), y6, y7, y8, y9]) ?_ (fun i σ H' => ∃ (pl : Nat) (ks : List (List Int)) (kk : Option (List Int)) (ts : List Vl) (us vs : List V) (y6 y7 y8 y9 : Option V), at_ + i ≤ pl ∧ pl ≤ os.length ∧ ts.length ≤ pl ∧ ks.length = ts.length ∧ ks.Nodup ∧ RdA os pl (partSt s true ks pl) ⟨⟨true, kk, ks.zip ts⟩ :: b.fs, b.val⟩ ∧ H' kl = some (.lst us) ∧ TpAll H' us (ks.map kd) ∧ H' il = some (.lst vs) ∧ TpAll H' vs (datL ts) ∧ Same H H' ∧ σ = [some (.ref p), some (.int (at_ : Nat)), some (.int (left : Nat)), some (.bl true), some (.int (pl : Nat)), some (.ref kl), some (.ref il), y6, y7, y8, y9]) ⟨at_, [], none, [], [], [], none, none, none, none, Nat.le_refl _, ha, Nat.zero_le _, rfl, List.nodup_nil, R, gk2, .nil, gi, .nil, s02, rfl⟩ ?_ ?_
    · rintro σ H3 ⟨pl, ks, kk, ts, us, vs, y6, y7, y8, y9, h1, h2, h3, tl, kt, nd, R3, gk3, tk3, g3, t3, s3, rfl⟩
      have R5 := close_run (s := partSt s true ks pl) rfl (by show ("key" : Str) ≠ "entry"; decide +kernel) rfl rfl R3 h3
      have ul : us.length = ks.length := by rw [tpAll_len tk3, List.length_map]
      have vl : vs.length = ts.length := by rw [tpAll_len t3, datL_map, List.length_map]
      have zl : (ks.zip ts).length = ts.length := by rw [List.length_zip]; omega
      walk_at "rf"
      refine ⟨kl, _, rfl, .inl (SqL.of gk3), ?_⟩
      rw [ul, kt]
      walk_at "rf"
      refine ⟨by omega, by omega, fun D nD => ?_⟩
      refine lc_range (fun i H' => i ≤ ts.length ∧ ∃ cs : List (Ent × Vl), Same H3 H' ∧ H' D = some (.lst (cs.map fun c => V.ref c.1.t)) ∧ (∀ c ∈ cs, EdAt H' c) ∧ cs.map pr = (ks.zip ts).take i) ⟨Nat.zero_le _, [], same_upd nD _, upd_same, fun c hc => absurd hc (by simp), by rw [List.take_zero]; rfl⟩ ?_ ?_
      · rintro i H4 hi ⟨hi2, cs, s4, gD, hc, ec⟩
        have hi : i < ts.length := by omega
        have hcl : cs.length = i := by
          have := congrArg List.length ec
          rw [List.length_map, List.length_take, zl] at this
          omega
        have hk : ks[i]? = some ks[i] := List.getElem?_eq_getElem (by omega)
        have ht : ts[i]? = some ts[i] := List.getElem?_eq_getElem hi
        generalize ks[i] = key at hk
        generalize ts[i] = tt at ht
        obtain ⟨q, huq, gq⟩ : ∃ q, us[i]? = some (V.ref q) ∧ H3 q = some (.tup (key.map V.int)) := by
          obtain ⟨d, hd, td⟩ := tpAll_get tk3 (List.getElem?_eq_getElem (by omega : i < us.length))
          rw [List.getElem?_map, hk] at hd
          cases hd
          obtain ⟨q, e, g⟩ := tp_kdB td
          exact ⟨q, by rw [List.getElem?_eq_getElem (by omega), e], g⟩
        obtain ⟨u, hvu, tu⟩ : ∃ u, vs[i]? = some (V.ref u) ∧ Tp H3 (.ref u) tt.dat := by
          obtain ⟨d, hd, td⟩ := tpAll_get t3 (List.getElem?_eq_getElem (by omega : i < vs.length))
          rw [datL_map, List.getElem?_map, ht] at hd
          cases hd
          obtain ⟨u, e⟩ := vl_ref td
          rw [e] at td
          exact ⟨u, by rw [List.getElem?_eq_getElem (by omega), e], td⟩
        have hz : (ks.zip ts)[i]? = some (key, tt) := by
          rw [List.getElem?_zip_eq_some]
          exact ⟨hk, ht⟩
        walk_at "rf"
        refine ⟨rfl, ?_⟩
        walk_at "rf"
        rw [Int.zero_add]
        refine r_ixL (SqL.of (s4 _ _ gk3)) (atI_nat huq) ?_
        walk_at "rf"
        refine r_ixL (SqL.of (s4 _ _ g3)) (atI_nat hvu) ?_
        walk_at "rf"
        refine ⟨by show 2 ≤ sizeLine; decide, fun T H5 nT gT s5 => ?_⟩
        have gD5 := s5 _ _ gD
        have tk5 := (Same.tk s5).trans (tk_put (o := .lst ((cs.map fun c => V.ref c.1.t) ++ [.ref T])) gD5)
        refine ⟨_, gD5, small9m (by rw [List.length_map]; omega), by omega, cs ++ [(⟨T, q, u, key⟩, tt)], same_away (s4.trans s5) nD, ?_, fun c hcm => ?_, ?_⟩
        · rw [upd_same, List.map_append]
          rfl
        · rcases List.mem_append.mp hcm with z | z
          · exact (hc c z).tk tk5
          · rw [List.mem_singleton.mp z]
            exact ⟨⟨tk_put gD5 _ _ gT, tk5 _ _ (s4 _ _ gq)⟩, Tp.tk tk5 _ _ (Tp.tk (Same.tk s4) _ _ tu)⟩
        · rw [List.map_append, ec, List.take_succ, hz]
          rfl
      · rintro H4 ⟨_, cs, s4, gD, hc, ec⟩
        simp only [Int.toNat_natCast] at ec
        rw [← zl, List.take_length] at ec
        have ek : (cs.map (·.1)).map (·.k) = ks := by
          have := congrArg (List.map Prod.fst) ec
          rw [List.map_map, List.map_fst_zip (by omega)] at this
          rw [List.map_map, ← this]
          rfl
        walk_at "rf"
        refine ⟨D, cs.map (·.1), rfl, by rw [List.map_map]; exact SqL.of gD, fun e he => ?_, by rw [ek]; exact nd, fun es' q pq sq nq => ?_⟩
        · obtain ⟨c, hcm, rfl⟩ := List.mem_map.mp he
          exact (hc c hcm).1
        obtain ⟨zs, pz, rfl⟩ := perm_up (fun c : Ent × Vl => c.1) pq
        have s5 := same_upd nq (.lst ((zs.map fun c : Ent × Vl => c.1).map fun e => V.ref e.t))
        have gq : upd H4 q (.lst ((zs.map fun c : Ent × Vl => c.1).map fun e => V.ref e.t)) q = some (.lst ((zs.map fun c : Ent × Vl => c.1).map fun e => V.ref e.t)) := upd_same
        generalize upd H4 q (.lst ((zs.map fun c : Ent × Vl => c.1).map fun e => V.ref e.t)) = H5 at s5 gq ⊢
        rw [List.map_map] at gq
        have eb : (Pf.mk true kk (ks.zip ts)).built = .mp (zs.map pr) := by
          show Vl.mp (sortM (ks.zip ts)) = _
          rw [← ec]
          refine congrArg Vl.mp (sortM_uniq (pz.map pr) ?_).symm
          rw [List.map_map]
          rw [List.map_map] at sq
          exact sq
        rw [eb] at R5
        walk_at "rf"
        refine r_toT (SqL.of gq) fun q2 H6 nq2 gq2 s6 => ?_
        walk_at "rf"
        refine ⟨by show 2 ≤ sizeLine; decide, fun v H7 n7 g7 s7 => ?_⟩
        walk_at "rf"
        refine ⟨by show 3 ≤ sizeLine; decide, fun R8 H8 n8 g8 s8 => ?_⟩
        have s48 := s5.trans (s6.trans (s7.trans s8))
        have hc8 : ∀ c ∈ zs, EdAt H8 c := fun c hcm => (hc c (pz.mem_iff.mp hcm)).tk (Same.tk s48)
        refine hg (.ref v) (.mp (zs.map pr)) (pl + 1) R8 H8 (by omega) (by omega) R5 ?_ (.tup (s8 _ _ g7) (.cons (.str _) (.cons (.tup ((s7.trans s8) _ _ gq2) ?_) .nil))) (s3.trans (s4.trans s48))
        · rw [g8]
          rfl
        · exact tpa_eds hc8
    · rintro n' hM i σ H3 hi ⟨pl, ks, kk, ts, us, vs, y6, y7, y8, y9, h1, h2, tl, kt, nd, R3, gk3, tk3, g3, t3, s3, rfl⟩
      walk_at "rf"
      refine ⟨p, _, rfl, .inl (SqL.of (s3 _ _ hp)), ?_⟩
      rw [List.length_map]
      walk_at "rg"
      by_cases h101 : os[pl]? = some 101
      · have l1 := (List.getElem?_eq_some_iff.mp h101).1
        rw [if_pos (by rw [decide_eq_true (by omega)])]
        walk_at "rf"
        refine r_ixL (SqL.of (s3 _ _ hp)) (atI_nat (by rw [List.getElem?_map, h101]; rfl)) ?_
        walk_at "rf"
        exact hM _ _ ⟨pl, ks, kk, ts, us, vs, _, _, _, _, by omega, l1, h101, by omega, kt, nd, R3, gk3, tk3, g3, t3, s3, rfl⟩
      refine r_two ?_ (fun l1 hB => ?_)
      · walk_at "rf"
        refine ⟨_, _, _, rfl, p, os, pl, partSt s true ks pl, _, kl, ks, s.lv, rfl, rfl, rfl, s3 _ _ hp, hl, rfl, rfl, rfl, R3, h2, h101, ⟨us, gk3, tk3⟩, by omega, fun q key pl1 R4 H4 l1 l2 nky R5 g4 gq4 s4 => ?_, fun v pl2 R4 H4 e4 g4 s4 => ?_⟩
        · refine r_gunl (SqL.of g4) rfl ?_
          walk_at "rf"
          have gk4 := s4 _ _ gk3
          have s04 := s3.trans s4
          refine ⟨tyL gk4, ?_⟩
          walk_at "rf"
          refine r_appE gk4 (small9m (by rw [tpAll_len tk3, List.length_map]; omega)) fun H5 g5 f5 => ?_
          have s05 := same_but s04 nk f5.1
          have tk5 : Tk H4 H5 := (Ch.eb (o := [kl]) f5 (by simp) Ch.refl).tk
          have gi5 : H5 il = some (.lst vs) := by rw [f5.1 il (Ne.symm ne)]; exact s4 _ _ g3
          have eE : scNote (⟨true, ks⟩ :: s.lv) key = ⟨true, ks ++ [key]⟩ :: s.lv := by
            unfold scNote
            dsimp only
            rw [if_neg nky]
          walk_at "rf"
          refine ⟨_, _, _, rfl, p, os, pl1, left, keySt (partSt s true ks pl) key pl1, _, rfl, rfl, rfl, hn, s05 _ _ hp, hl, l2, ⟨rfl, .inr rfl⟩, by show (scNote (⟨true, ks⟩ :: s.lv) key).length + left = 24; rw [eE]; exact lv, R5, fun _ => .inl rfl, fun v t pl2 R6 H6 l3 l4 R7 g6 t6 s6 => ?_, fun v pl2 R6 H6 e6 g6 s6 => ?_⟩
          · refine r_gunl (SqL.of g6) rfl ?_
            walk_at "rf"
            have gi6 := s6 _ _ gi5
            have s06 := s05.trans s6
            refine ⟨tyL gi6, ?_⟩
            walk_at "rf"
            refine r_appE gi6 (small9m (by rw [tpAll_len t3, datL_map, List.length_map]; omega)) fun H7 g7 f7 => ?_
            have s07 := same_but s06 ni0 f7.1
            have tk7 : Tk H6 H7 := (Ch.eb (o := [il]) f7 (by simp) Ch.refl).tk
            have gk7 : H7 kl = some (.lst (us ++ [.ref q])) := by rw [f7.1 kl ne]; exact s6 _ _ g5
            have tk47 : Tk H4 H7 := tk5.trans ((Same.tk s6).trans tk7)
            refine ⟨pl2, ks ++ [key], some key, ts ++ [t], us ++ [.ref q], vs ++ [v], _, _, _, _, by omega, l4, by rw [List.length_append]; show _ + 1 ≤ _; omega, by rw [List.length_append, List.length_append, kt]; rfl, ?_, ?_, gk7, ?_, g7, ?_, s07, rfl⟩
            · rw [List.nodup_append]
              refine ⟨nd, by simp, fun a ha b hb => ?_⟩
              rw [List.mem_singleton.mp hb]
              exact fun z => nky (z ▸ ha)
            · rw [List.zip_append kt]
              have e7 : scEndValue (inT (keySt (partSt s true ks pl) key pl1) .no pl2) = partSt s true (ks ++ [key]) pl2 := by
                unfold scEndValue inT keySt
                show ({ pl := pl2, wt := wtOf (scNote (⟨true, ks⟩ :: s.lv) key), lv := scNote (⟨true, ks⟩ :: s.lv) key, tk := .no } : Sc) = _
                rw [eE]
                rfl
              rw [e7] at R7
              exact R7
            · rw [List.map_append]
              exact tpAll_app (TpAll.tk ((Same.tk s4).trans tk47) _ _ tk3) (.cons (tp_kd (tk47 _ _ gq4)) .nil)
            · rw [datL_map, List.map_append, ← datL_map]
              exact tpAll_app (TpAll.tk ((Same.tk s4).trans tk47) _ _ t3) (.cons (Tp.tk tk7 _ _ t6) .nil)
          · refine r_gunl (SqL.of g6) rfl ?_
            walk_at "rf"
            exact ⟨by show 3 ≤ sizeLine; decide, fun R8 H8 n8 g8 s8 => hb .non pl2 R8 H8 e6 g8 (s05.trans (s6.trans s8))⟩
        · refine r_gunl (SqL.of g4) rfl ?_
          walk_at "rf"
          exact ⟨by show 3 ≤ sizeLine; decide, fun R6 H6 n6 g6 s6 => hb .non pl2 R6 H6 e4 g6 (s3.trans (s4.trans s6))⟩
      · have ho : os[pl]? = some os[pl] := List.getElem?_eq_getElem (by omega)
        generalize os[pl] = o at ho
        have o101 : o ≠ 101 := fun z => h101 (by rw [← z]; exact ho)
        walk_at "rf"
        refine r_ixL (SqL.of (s3 _ _ hp)) (atI_nat (by rw [List.getElem?_map, ho]; rfl)) ?_
        refine r_c ?_
        refine r_eqI ?_
        rw [decide_eq_false o101]
        exact ⟨false, rfl, hB⟩
    · rintro σ H3 ⟨pl, ks, kk, ts, us, vs, y6, y7, y8, y9, h1, h2, tl, kt, nd, R3, gk3, tk3, g3, t3, s3, rfl⟩
      omega
end

theorem in_ints38 (o : Int) : inV (.int o) [.int 108, .int 100] = decide (o = 108 ∨ o = 100) := by
  have e : ∀ a : Int, eqV (.int a) (.int o) = decide (a = o) := fun a => rfl
  unfold inV
  rw [List.any_cons, List.any_cons, List.any_nil, Bool.or_false, e, e]
  by_cases c : o = 108
  · subst c
    decide
  · by_cases c2 : o = 100
    · subst c2
      decide
    · rw [decide_eq_false (fun z => c z.symm), decide_eq_false (fun z => c2 z.symm), decide_eq_false (fun z => z.elim c c2)]
      rfl
theorem cnt_nil {os : List Int} {p : Nat} {s : Sc} {b : Bs} (R : RdA os p (inT s (.cnt (ctC 0)) p) b) (ho : os[p]? = some 58) : RdA os (p + 1) (scEndValue (inT s .no (p + 1))) (b.putv (.lf "bytes" [kd []])) := by
  have a : scTake (inT s (.cnt (ctC 0)) p) 58 = (true, [.lf "bytes" [kd []]], scEndValue (inT s .no p)) := by
    rw [gon_end (t' := .cnt ⟨true, true, [], some 0⟩) (fun z => by cases z) ?_ rfl]
    · exact scEnd_cnt s _ p
    · refine Prod.ext ?_ ?_
      · rw [mk_cnt.fst _ _ rfl, ct_col]
      · rw [mk_cnt.snd _ _ rfl (by rw [ct_col]), ct_col]
        rfl
  exact R.step ho a _ rfl _ rfl
section
variable {P : Program} {w : World} {K : PySem.W.Frag} {mg : Str → Option Value} {base : Heap} {f : Addr} {fd fd2 : FuncData}
theorem ok__law_value_read (n : Nat) (F : FunD K "_law_value_read" "_law_value_read" (defArgs s__law_value_read) (defBody s__law_value_read) (defScope s__law_value_read) [] [] (glAd "_law_value_read" K) fd) (m : mg "_law_value_read" = some (.ref (glAd "_law_value_read" K))) (nb : Nm K mg)
    (c__law_counted : Cal P w K mg base 2 "_law_counted" (sp__law_counted K) []) (c__law_integer_read : Cal P w K mg base 2 "_law_integer_read" (sp__law_integer_read K) []) (c__law_parts_read : Cal P w K mg base (10 + 2 * n + 1) "_law_parts_read" (sp__law_parts_read K n) []) : Cal P w K mg base (10 + 2 * (n + 1)) "_law_value_read" (sp__law_value_read K (n + 1)) [] := by
  refine calD (k := 10 + 2 * n + 1) F m sc__law_value_read (fun _ _ _ _ _ _ us hl => match us, hl with | [_, _, _], _ => rfl) len3 (fun cdv A outer s H vs Q E hr h => ⟨_, (pss_cons (ps_if (pt_cmpR op_eq (pv 1) (pe_callB call_len_seq (by rfl) nb.len PySem.boot_len (pa_cons (pv 0) pa_nil)) (nomark _))
    (pss_one (ps_ret (pe_lstE (pa_cons pe_bl (pa_cons pe_non (pa_cons (pv 1) pa_nil))))))
    pss_nil)
    (pss_cons (ps_set (i := 3) sc__law_value_read.nd rfl (Or.inl rfl) (pe_ix ix_list (pv 0) (pv 1) (fun _ _ => rfl)))
    (pss_cons (ps_if (pt_cmpR op_eq (pv 3) pe_int (nomark _))
    (pss_one (ps_ret (pe_c c__law_integer_read hr (by omega) rfl (pa_cons (pv 0) (pa_cons (pe_op op_add (pv 1) pe_int) pa_nil)))))
    pss_nil)
    (pss_cons (ps_if (PW.pt (pw_and (pt_cmpR op_in_seq (pv 3) (pe_lstE (pa_cons pe_int (pa_cons pe_int pa_nil))) rfl) (pw_and1 (pt_cmpR op_gt (pv 2) pe_int (nomark _)))))
    (pss_one (ps_ret (pe_c c__law_parts_read hr (by omega) rfl (pa_cons (pv 0) (pa_cons (pe_op op_add (pv 1) pe_int) (pa_cons (pe_op op_sub (pv 2) pe_int) (pa_cons (pe_cmpR op_eq (pv 3) pe_int (nomark _)) pa_nil)))))))
    pss_nil)
    (pss_cons (ps_if (PW.pt (pw_or (pt_cmpR op_lt (pv 3) pe_int (nomark _)) (pw_or1 (pt_cmpR op_gt (pv 3) pe_int (nomark _)))))
    (pss_one (ps_ret (pe_lstE (pa_cons pe_bl (pa_cons pe_non (pa_cons (pv 1) pa_nil))))))
    pss_nil)
    (pss_cons (ps_asg (pe_c c__law_counted hr (by omega) rfl (pa_cons (pv 0) (pa_cons (pv 1) pa_nil))) (pg_unl rfl (pgs_cons (pg_name (i := 4) sc__law_value_read.nd rfl (Or.inl rfl)) (pgs_cons (pg_name (i := 5) sc__law_value_read.nd rfl (Or.inl rfl)) (pgs_cons (pg_name (i := 6) sc__law_value_read.nd rfl (Or.inl rfl)) pgs_nil)))))
    (pss_cons (ps_if (pt_not (pt_val (pv 4)))
    (pss_one (ps_ret (pe_lstE (pa_cons pe_bl (pa_cons pe_non (pa_cons (pv 6) pa_nil))))))
    pss_nil)
    (pss_one (ps_ret (pe_lstE (pa_cons pe_bl (pa_cons (pe_tupE (pa_cons pe_str (pa_cons (pe_callTy call_tuple_ofE (by rfl) nb.tuple (by decide +kernel) (pa_cons (pv 5) pa_nil)) pa_nil))) (pa_cons (pv 6) pa_nil))))))))))))), ?_⟩)
  obtain ⟨_, _, _, rfl, p, os, at_, left, s, b, rfl, rfl, rfl, hn, hp, hl, ha, vs, lv, R, h101, hg, hb⟩ := h
  -- 0:octets 1:at 2:left 3:first 4:is_good 5:row 6:place
  have vn := vst_nn vs
  walk_at "rf"
  refine ⟨p, _, rfl, .inl (SqL.of hp), ?_⟩
  rw [List.length_map]
  walk_at "rf"
  refine r_ite (fun c => ?_) (fun c => ?_)
  · walk_at "rf"
    exact ⟨by show 3 ≤ sizeLine; decide, fun R2 H2 n2 g2 s2 => hb .non at_ R2 H2 (R.over (by omega) (fun z => vn z)) g2 s2⟩
  have la : at_ < os.length := by omega
  have ho : os[at_]? = some os[at_] := List.getElem?_eq_getElem la
  generalize os[at_] = o at ho
  walk_at "rf"
  refine r_ixL (SqL.of hp) (atI_nat (by rw [List.getElem?_map, ho]; rfl)) ?_
  walk_at "rf"
  refine r_ite (fun c2 => ?_) (fun c2 => ?_)
  · walk_at "rf"
    subst c2
    exact ⟨_, _, rfl, p, os, at_, s, b, rfl, rfl, hp, hl, vs, R, ho, hg, hb⟩
  walk_at "rf"
  refine ⟨by show 2 ≤ sizeLine; decide, fun p3 H3 n3 g3 s3 => ?_⟩
  walk_at "rf"
  refine ⟨p3, _, rfl, .inl (SqL.of g3), rfl, rfl, ?_⟩
  rw [if_neg (by decide), in_ints38]
  walk_at "rf"
  have hp3 := s3 _ _ hp
  have opn : (o = 108 ∨ o = 100) → 0 < left → ∀ (mm : Bool) (Q' : VK), (mm = decide (o = 100)) → (∀ v H', Q v H' → Q' v H') → sp__law_parts_read K n [.ref p, .int ((at_ + 1 : Nat) : Int), .int ((left - 1 : Nat) : Int), .bl mm] H3 Q' C8.E0 := fun h1 h2 mm Q' em hQ => by
    have lv0 : s.lv.length < 24 := by omega
    have e1 : o = if mm = true then 100 else 108 := by
      rw [em]
      by_cases z : o = 100
      · rw [decide_eq_true z, if_pos rfl, z]
      · rw [decide_eq_false z, if_neg (by decide)]
        exact h1.resolve_right z
    have R1 := open_run vs R (by rw [ho, e1]) lv0
    exact ⟨_, _, _, _, rfl, p, os, at_ + 1, left - 1, mm, s, b, rfl, rfl, rfl, rfl, by omega, hp3, hl, by omega, by omega, R1, fun v t pl Rr H' q1 q2 q3 q4 q5 q6 => hQ _ _ (hg v t pl Rr H' (by omega) q2 q3 q4 q5 (s3.trans q6)), fun v pl Rr H' q1 q2 q3 => hQ _ _ (hb v pl Rr H' q1 q2 (s3.trans q3))⟩
  by_cases both : (o = 108 ∨ o = 100) ∧ 0 < left
  · rw [if_pos (by rw [decide_eq_true both.1])]
    walk_at "rf"
    rw [if_pos (by rw [decide_eq_true (by omega)])]
    walk_at "rf"
    have e1 : ((at_ : Nat) : Int) + 1 = ((at_ + 1 : Nat) : Int) := by omega
    have e2 : ((left : Nat) : Int) - 1 = ((left - 1 : Nat) : Int) := by omega
    rw [e1, e2]
    exact opn both.1 both.2 _ Q rfl fun _ _ z => z
  refine r_two ?_ (fun c3 hB => ?_)
  rotate_left
  · walk_at "rg"
    rw [if_neg (by rw [decide_eq_false (fun z => both ⟨c3, by omega⟩)]; decide)]
    exact hB
  have no : isDg o = false → rdAll os = .inl at_ := fun d => val_no vs R ho c2 (fun z => h101 (by rw [ho, z])) (fun z => by
    have : ¬ 0 < left := fun y => both ⟨z, y⟩
    omega) d
  walk_at "rf"
  refine r_ite (fun c4 => ?_) (fun c4 => ?_)
  · walk_at "rf"
    exact ⟨by show 3 ≤ sizeLine; decide, fun R2 H4 n4 g4 s4 => hb .non at_ R2 H4 (no (not_dg (.inl c4))) g4 (s3.trans s4)⟩
  walk_at "rf"
  refine r_ite (fun c5 => ?_) (fun c5 => ?_)
  · walk_at "rf"
    exact ⟨by show 3 ≤ sizeLine; decide, fun R2 H4 n4 g4 s4 => hb .non at_ R2 H4 (no (not_dg (.inr c5))) g4 (s3.trans s4)⟩
  have B : Beg os at_ s Tok.cnt := beg_cnt vs fun o2 ho2 => by
    rw [ho] at ho2
    injection ho2 with e
    omega
  walk_at "rf"
  refine ⟨_, _, rfl, p, os, at_, rfl, rfl, hp3, hl, ha, fun j R1 H4 D d g4 s4 => ?_, fun j R1 q1 m row H4 D hj h58 em er gq g4 s4 => ?_⟩
  · refine r_gunl (SqL.of g4) rfl ?_
    walk_at "rf"
    exact ⟨by show 3 ≤ sizeLine; decide, fun R2 H5 n5 g5 s5 => hb .non _ R2 H5 (cnt_bad R B D d) g5 (s3.trans (s4.trans s5))⟩
  have R2 := dg_run R B D.2.1 hj
  have tc := cnt_col R B D.2.1 hj
  rw [em] at R2 tc
  have dl := D.1
  have l58 := (List.getElem?_eq_some_iff.mp h58).1
  have lr : row.length ≤ m ∧ at_ + j + 1 + row.length ≤ os.length ∧ (row.length < m → at_ + j + 1 + row.length = os.length) := by
    rw [er, List.length_take, List.length_drop]
    omega
  have R3 : 0 < m → RdA os (at_ + j + 1) (inT s (.cnt ⟨false, true, [], some (m : Int)⟩) (at_ + j + 1)) b := fun hm => by
    refine R2.step h58 (go_on (mk_cnt.no _) (t' := .cnt ⟨false, true, [], some (m : Int)⟩) ?_ rfl) b rfl _ rfl
    rw [tc, decide_eq_false (by omega)]
  refine r_gunl (SqL.of g4) rfl ?_
  walk_at "rf"
  by_cases cm : row.length = m
  · have good : RdA os (at_ + j + 1 + m) (scEndValue (inT s .no (at_ + j + 1 + m))) (b.putv (.lf "bytes" [kd row])) := by
      by_cases z : m = 0
      · rw [z] at R2 cm
        rw [List.length_eq_zero_iff.mp cm, z]
        exact cnt_nil R2 h58
      · rw [er]
        exact row_done (R3 (by omega)) (by omega) (by omega)
    rw [if_neg (by rw [decide_eq_true cm]; decide)]
    walk_at "rf"
    refine r_toT (SqL.of gq) fun t H5 nt gt s5 => ?_
    walk_at "rf"
    refine ⟨by show 2 ≤ sizeLine; decide, fun v H6 n6 g6 s6 => ?_⟩
    walk_at "rf"
    refine ⟨by show 3 ≤ sizeLine; decide, fun R8 H8 n8 g8 s8 => ?_⟩
    refine hg (.ref v) (.lf "bytes" [kd row]) (at_ + j + 1 + m) R8 H8 (by omega) (by omega) good ?_ (.tup (s8 _ _ g6) (.cons (.str _) (.cons (tp_kd ((s6.trans s8) _ _ gt)) .nil))) (s3.trans (s4.trans (s5.trans (s6.trans s8))))
    rw [g8, cm]
  · have lt : row.length < m := by omega
    have le := lr.2.2 lt
    have bad : rdAll os = .inl (at_ + j + 1 + row.length) := by
      have q := row_cnt (R3 (by omega)) row.length lt (by omega)
      exact q.over le (fun z => vn z)
    rw [if_pos (by rw [decide_eq_false cm]; rfl)]
    walk_at "rf"
    exact ⟨by show 3 ≤ sizeLine; decide, fun R2 H5 n5 g5 s5 => hb .non _ R2 H5 bad g5 (s3.trans (s4.trans s5))⟩
theorem rec__law_value_read (Fp : FunD K "_law_parts_read" "_law_parts_read" (defArgs s__law_parts_read) (defBody s__law_parts_read) (defScope s__law_parts_read) [] [] (glAd "_law_parts_read" K) fd2) (mp : mg "_law_parts_read" = some (.ref (glAd "_law_parts_read" K)))
    (F : FunD K "_law_value_read" "_law_value_read" (defArgs s__law_value_read) (defBody s__law_value_read) (defScope s__law_value_read) [] [] (glAd "_law_value_read" K) fd) (m : mg "_law_value_read" = some (.ref (glAd "_law_value_read" K))) (nb : Nm K mg)
    (c__law_counted : Cal P w K mg base 2 "_law_counted" (sp__law_counted K) []) (c__law_integer_read : Cal P w K mg base 2 "_law_integer_read" (sp__law_integer_read K) []) (c__law_key_read : Cal P w K mg base 3 "_law_key_read" (sp__law_key_read K) []) : ∀ n, Cal P w K mg base (10 + 2 * n) "_law_value_read" (sp__law_value_read K n) []
  | 0 => calD (k := 9) F m sc__law_value_read (fun _ _ _ _ _ _ us hl => match us, hl with | [_, _, _], _ => rfl) (fun _ _ _ _ h => (no__law_value_read h).elim) (fun _ _ _ _ _ _ _ _ _ h => (no__law_value_read h).elim)
  | n + 1 => ok__law_value_read n F m nb c__law_counted c__law_integer_read (ok__law_parts_read n Fp mp nb c__law_key_read (rec__law_value_read Fp mp F m nb c__law_counted c__law_integer_read c__law_key_read n))
end

/-! ### whole texts, told and right -/


theorem RdA.start (os : List Int) : RdA os 0 sc0 ⟨[], none⟩ := ⟨by rw [List.take_zero]; rfl, rfl⟩
theorem sc0_vst : VSt sc0 := ⟨rfl, .inl rfl⟩
/-- behind the value of the text no octet can stand -/
theorem over_no {os : List Int} {pl : Nat} {b : Bs} (R : RdA os pl (scEndValue (inT sc0 .no pl)) b) (h : pl < os.length) : rdAll os = .inl pl := by
  have ho : os[pl]? = some os[pl] := List.getElem?_eq_getElem h
  refine R.stop ho ?_
  rw [scTake_mark rfl]
  unfold scMark
  by_cases c : os[pl] = 101
  · rw [if_pos c]
    rfl
  · rw [if_neg c, if_pos (show (scEndValue (inT sc0 .no pl)).wt = "nothing" from rfl)]
def sp__law_text_read (K : Frg) : Sp := sp1 fun o H Q _ => ∃ (p : Addr) (os : List Int), o = .ref p ∧ H p = some (.lst (os.map V.int)) ∧ os.length ≤ 9000000 ∧
  (∀ (t : Vl) (v : V) (pl : Nat) (R : Addr) (H' : Hp), rdAll os = .inr t → H' R = some (.lst [.bl true, v, .int (pl : Nat)]) → Tp H' v t.dat → Same H H' → Q (.ref R) H') ∧ RdNo K H os Q
def sp__law_told (K : Frg) : Sp := sp1 fun o H Q _ => ∃ (a : Addr) (os : List Int), o = .ref a ∧ (H a = some (.lst (os.map V.int)) ∨ H a = some (.tup (os.map V.int))) ∧ Safe os ∧
  (∀ t, rdAll os = .inr t → ∀ T v H', H' T = some (.tup [.str "value", v]) → Tp H' v t.dat → Same H H' → Q (.ref T) H') ∧ (∀ k, rdAll os = .inl k → ∀ T H', H' T = some (.tup [.str "place", .int k]) → Same H H' → Q (.ref T) H')
def sp__law_right (K : Frg) : Sp := sp1 fun o H Q _ => ∃ (p : Addr) (os : List Int), o = .ref p ∧ H p = some (.lst (os.map V.int)) ∧ os.length ≤ 9000000 ∧ Oct os ∧ ∀ H', Same H H' → Q (.bl true) H'
theorem ld_two {n : Nat} {H : Hp} {T : Addr} {x : Str} {v : V} {d : PyData} (h : H T = some (.tup [.str x, v])) (hx : PyData.canLay0 (.str x) = true) (l : Ld (n + 1) H v d) : Ld (n + 2) H (.ref T) (.tuple [.str x, d]) := by
  refine ⟨T, _, rfl, h, rfl, by show 2 ≤ _; decide, fun i y e h1 h2 => ?_⟩
  match i, h1, h2 with
  | 0, h1, h2 =>
    cases h1
    cases h2
    exact ⟨rfl, hx⟩
  | 1, h1, h2 =>
    cases h1
    cases h2
    exact l
  | i + 2, h1, _ => simp at h1
section
variable {P : Program} {w : World} {K : PySem.W.Frag} {mg : Str → Option Value} {base : Heap} {f : Addr} {fd : FuncData}
theorem ok__law_text_read (F : FunD K "_law_text_read" "_law_text_read" (defArgs s__law_text_read) (defBody s__law_text_read) (defScope s__law_text_read) [] [] (glAd "_law_text_read" K) fd) (m : mg "_law_text_read" = some (.ref (glAd "_law_text_read" K))) (nb : Nm K mg) (c__law_value_read : Cal P w K mg base 62 "_law_value_read" (sp__law_value_read K 26) []) : Cal P w K mg base 63 "_law_text_read" (sp__law_text_read K) [] := by
  refine calD F m sc__law_text_read (fun _ _ _ _ _ _ us hl => match us, hl with | [_], _ => rfl) len1 (fun cdv A outer s H vs Q E hr h => ⟨_, (pss_cons (ps_asg (pe_c c__law_value_read hr (by decide) rfl (pa_cons (pv 0) (pa_cons pe_int (pa_cons pe_int pa_nil)))) (pg_unl rfl (pgs_cons (pg_name (i := 1) sc__law_text_read.nd rfl (Or.inl rfl)) (pgs_cons (pg_name (i := 2) sc__law_text_read.nd rfl (Or.inl rfl)) (pgs_cons (pg_name (i := 3) sc__law_text_read.nd rfl (Or.inl rfl)) pgs_nil)))))
    (pss_cons (ps_if (PW.pt (pw_or (pt_not (pt_val (pv 1))) (pw_or1 (pt_cmpR op_lt (pv 3) (pe_callB call_len_seq (by rfl) nb.len PySem.boot_len (pa_cons (pv 0) pa_nil)) (nomark _)))))
    (pss_one (ps_ret (pe_lstE (pa_cons pe_bl (pa_cons pe_non (pa_cons (pv 3) pa_nil))))))
    pss_nil)
    (pss_one (ps_ret (pe_lstE (pa_cons pe_bl (pa_cons (pv 2) (pa_cons (pv 3) pa_nil)))))))), ?_⟩)
  obtain ⟨_, rfl, p, os, rfl, hp, hl, hg, hb⟩ := h
  -- 0:octets 1:is_good 2:value 3:place
  walk_at "rf"
  refine ⟨_, _, _, rfl, p, os, 0, 24, sc0, _, rfl, rfl, rfl, by decide, hp, hl, Nat.zero_le _, sc0_vst, rfl, RdA.start os, fun _ => .inr rfl, fun v t pl R H1 l1 l2 R1 g1 t1 s1 => ?_, fun v pl R H1 e g1 s1 => ?_⟩
  · refine r_gunl (SqL.of g1) rfl ?_
    walk_at "rf"
    refine ⟨p, _, rfl, .inl (SqL.of (s1 _ _ hp)), ?_⟩
    rw [List.length_map]
    walk_at "rf"
    refine r_ite (fun c => ?_) (fun c => ?_)
    · walk_at "rf"
      exact ⟨by show 3 ≤ sizeLine; decide, fun R2 H2 n2 g2 s2 => hb .non pl R2 H2 (over_no R1 (by omega)) g2 (s1.trans s2)⟩
    · walk_at "rf"
      exact ⟨by show 3 ≤ sizeLine; decide, fun R2 H2 n2 g2 s2 => hg t v pl R2 H2 (R1.done (by omega) rfl rfl) g2 (Tp.tk (Same.tk s2) _ _ t1) (s1.trans s2)⟩
  · refine r_gunl (SqL.of g1) rfl ?_
    walk_at "rf"
    exact ⟨by show 3 ≤ sizeLine; decide, fun R2 H2 n2 g2 s2 => hb .non pl R2 H2 e g2 (s1.trans s2)⟩
theorem ok__law_told (F : FunD K "_law_told" "_law_told" (defArgs s__law_told) (defBody s__law_told) (defScope s__law_told) [] [] (glAd "_law_told" K) fd) (m : mg "_law_told" = some (.ref (glAd "_law_told" K))) (nb : Nm K mg) (z_AlikeError : Raz P w K mg base "AlikeError" (C_AlikeError K) "what") (c_read_bencode : CalX P w K mg base 10 "read_bencode" (sp_read_bencode K)) : Cal P w K mg base 11 "_law_told" (sp__law_told K) [] := by
  refine calD F m sc__law_told (fun _ _ _ _ _ _ us hl => match us, hl with | [_], _ => rfl) len1 (fun cdv A outer s H vs Q E hr h => ⟨_, (pss_one (ps_try_asE (i := 1) (Wout := fun _ _ _ _ => False) rfl rfl sc__law_told.nd rfl rfl ⟨rfl, by decide, .inl nb.g_AlikeError⟩ takes0 (fun W pn xe tk pw => ⟨_, (pss_one (ps_ret (pe_tupE (pa_cons pe_str (pa_cons (pe_cX c_read_bencode hr (by decide) rfl tk (pa_cons (pv 0) pa_nil)) pa_nil))))), rfl⟩)
    (fun a oe cls d pn hz hf => ⟨_, (pss_cons (ps_if (PW.pt (pw_or (pt_val (pe_callB (call_isX hz hf) (by rfl) nb.isinstance (by decide +kernel) (pa_cons (pv 1) (pa_cons (pe_gc (v := .ref (C_Unwritable K)) rfl ⟨_, nb.g_Unwritable, rfl⟩) pa_nil)))) (pw_or (pt_val (pe_callB (call_isX hz hf) (by rfl) nb.isinstance (by decide +kernel) (pa_cons (pv 1) (pa_cons (pe_gc (v := .ref (C_Doubled K)) rfl ⟨_, nb.g_Doubled, rfl⟩) pa_nil)))) (pw_or1 (pt_not (pt_val (pe_callB (call_isX hz hf) (by rfl) nb.isinstance (by decide +kernel) (pa_cons (pv 1) (pa_cons (pe_gc (v := .ref (C_Unreadable K)) rfl ⟨_, nb.g_Unreadable, rfl⟩) pa_nil)))))))))
    (pss_one (ps_ret (pe_tupE (pa_cons pe_str pa_nil))))
    pss_nil)
    (pss_one (ps_ret (pe_tupE (pa_cons pe_str (pa_cons (pe_xf nb.x_Unreadable.xf nb.x_Unreadable.no hz hf (pv 1)) pa_nil)))))), rfl⟩))), ?_⟩)
  obtain ⟨_, rfl, a, os, rfl, ha, hO, h, hr⟩ := h
  -- 0:octets 1:e
  walk_at "rf"
  refine ⟨_, rfl, a, os, rfl, ha, hO, fun t e v H1 tp s1 => ?_, fun k e d H1 hd c => ⟨true, nb.e_Unreadable_AlikeError, fun x hx => ?_, fun q => Bool.noConfusion q⟩⟩
  · walk_at "rf"
    refine ⟨by show 2 ≤ sizeLine; decide, fun T H2 nT gT s2 => ?_⟩
    exact h t e T v H2 gT (Tp.tk (Same.tk s2) _ _ tp) (s1.trans s2)
  · dsimp only
    intro _
    walk_at "rf"
    refine ⟨_, _, d, _, false, rfl, rfl, rfl, hd, nb.y_Unreadable, nb.i_Unreadable_Unwritable, ?_⟩
    walk_at "rf"
    refine ⟨_, _, d, _, false, rfl, rfl, rfl, hd, nb.y_Unreadable, nb.i_Unreadable_Doubled, ?_⟩
    walk_at "rf"
    refine ⟨_, _, d, _, true, rfl, rfl, rfl, hd, nb.y_Unreadable, nb.i_Unreadable_Unreadable, ?_⟩
    walk_at "rf"
    refine ⟨rfl, d, _, _, rfl, hd, lk_hit _ _ _, ?_⟩
    walk_at "rf"
    refine ⟨by show 2 ≤ sizeLine; decide, fun T H2 nT gT s2 => ?_⟩
    exact hr k e T H2 gT (Same.trans (fun y u hy => c y u hy fun z => absurd z (by simp)) s2)
theorem ok__law_right (F : FunD K "_law_right" "_law_right" (defArgs s__law_right) (defBody s__law_right) (defScope s__law_right) [] [] (glAd "_law_right" K) fd) (m : mg "_law_right" = some (.ref (glAd "_law_right" K))) (nb : Nm K mg) (c__law_same : Cal P w K mg base 91 "_law_same" (sp__law_same K 90) []) (c__law_text_read : Cal P w K mg base 63 "_law_text_read" (sp__law_text_read K) []) (c__law_told : Cal P w K mg base 11 "_law_told" (sp__law_told K) []) : Cal P w K mg base 92 "_law_right" (sp__law_right K) [] := by
  refine calD F m sc__law_right (fun _ _ _ _ _ _ us hl => match us, hl with | [_], _ => rfl) len1 (fun cdv A outer s H vs Q E hr h => ⟨_, (pss_cons (ps_asg (pe_c c__law_text_read hr (by decide) rfl (pa_cons (pv 0) pa_nil)) (pg_unl rfl (pgs_cons (pg_name (i := 1) sc__law_right.nd rfl (Or.inl rfl)) (pgs_cons (pg_name (i := 2) sc__law_right.nd rfl (Or.inl rfl)) (pgs_cons (pg_name (i := 3) sc__law_right.nd rfl (Or.inl rfl)) pgs_nil)))))
    (pss_cons (ps_set (i := 4) sc__law_right.nd rfl (Or.inl rfl) (pe_tupE (pa_cons pe_str (pa_cons (pv 3) pa_nil))))
    (pss_cons (ps_if (pt_val (pv 1))
    (pss_one (ps_set (i := 4) sc__law_right.nd rfl (Or.inl rfl) (pe_tupE (pa_cons pe_str (pa_cons (pv 2) pa_nil)))))
    pss_nil)
    (pss_cons (ps_set (i := 5) sc__law_right.nd rfl (Or.inl rfl) (pe_callTy call_list_ofE (by rfl) nb.list (by decide +kernel) (pa_cons (pv 0) pa_nil)))
    (pss_one (ps_ret (pe_and (pe_c c__law_same hr (by decide) rfl (pa_cons (pe_c c__law_told hr (by decide) rfl (pa_cons (pv 5) pa_nil)) (pa_cons (pv 4) pa_nil))) (pe_and (pe_c c__law_same hr (by decide) rfl (pa_cons (pe_c c__law_told hr (by decide) rfl (pa_cons (pe_callTy call_tuple_ofE (by rfl) nb.tuple (by decide +kernel) (pa_cons (pv 0) pa_nil)) pa_nil)) (pa_cons (pv 4) pa_nil))) (pe_one (pe_cmpR (op_eqD hr.units) (pv 5) (pv 0) (nomark _))))))))))), ?_⟩)
  obtain ⟨_, rfl, p, os, rfl, hp, hl, ho, h⟩ := h
  -- 0:octets 1:is_good 2:value 3:place 4:due 5:passed
  have hS := safe_short hl ho
  walk_at "rf"
  refine ⟨_, rfl, p, os, rfl, hp, hl, fun t v pl R H1 e g1 t1 s1 => ?_, fun v pl R H1 e g1 s1 => ?_⟩
  · have bw := rd_valB hl ho t e
    refine r_gunl (SqL.of g1) rfl ?_
    walk_at "rf"
    refine ⟨by show 2 ≤ sizeLine; decide, fun D2 H2 n2 g2 s2 => ?_⟩
    walk_at "rf"
    refine ⟨by show 2 ≤ sizeLine; decide, fun D3 H3 n3 g3 s3 => ?_⟩
    have s13 := s1.trans (s2.trans s3)
    have t3 := Tp.tk (Same.tk (s2.trans s3)) _ _ t1
    walk_at "rf"
    refine r_toL (SqL.of (s13 _ _ hp)) fun ps H4 np gp s4 => ?_
    walk_at "rf"
    refine ⟨_, rfl, ps, os, rfl, .inl gp, hS, fun t' e' T v' H5 gT t5 s5 => ?_, fun k e' => by rw [e] at e'; cases e'⟩
    rw [e] at e'
    cases e'
    walk_at "rf"
    have s35 := s4.trans s5
    refine ⟨_, _, rfl, .tuple [.str "value", t.dat], ld_two gT (by decide +kernel) (bw_ld bw (by omega) t5), ld_two (s35 _ _ g3) (by decide +kernel) (bw_ld bw (by omega) (Tp.tk (Same.tk s35) _ _ t3)), fun H6 s6 => ⟨true, rfl, ?_⟩⟩
    walk_at "rf"
    have s06 := s13.trans (s35.trans s6)
    refine r_toT (SqL.of (s06 _ _ hp)) fun qs H7 nq gq s7 => ?_
    walk_at "rf"
    refine ⟨_, rfl, qs, os, rfl, .inr gq, hS, fun t' e' T2 v2 H8 gT2 t8 s8 => ?_, fun k e' => by rw [e] at e'; cases e'⟩
    rw [e] at e'
    cases e'
    walk_at "rf"
    have s38 := s35.trans (s6.trans (s7.trans s8))
    refine ⟨_, _, rfl, .tuple [.str "value", t.dat], ld_two gT2 (by decide +kernel) (bw_ld bw (by omega) t8), ld_two (s38 _ _ g3) (by decide +kernel) (bw_ld bw (by omega) (Tp.tk (Same.tk s38) _ _ t3)), fun H9 s9 => ⟨true, rfl, ?_⟩⟩
    walk_at "rf"
    have s49 := s5.trans (s6.trans (s7.trans (s8.trans s9)))
    refine r_eqIL (SqL.of (s49 _ _ gp)) (SqL.of ((s4.trans s49) _ _ (s13 _ _ hp))) ?_
    rw [decide_eq_true rfl]
    exact h _ (s13.trans (s4.trans s49))
  · refine r_gunl (SqL.of g1) rfl ?_
    walk_at "rf"
    refine ⟨by show 2 ≤ sizeLine; decide, fun D2 H2 n2 g2 s2 => ?_⟩
    walk_at "rf"
    have s12 := s1.trans s2
    refine r_toL (SqL.of (s12 _ _ hp)) fun ps H4 np gp s4 => ?_
    walk_at "rf"
    refine ⟨_, rfl, ps, os, rfl, .inl gp, hS, fun t' e' => (by rw [e] at e'; cases e'), fun k e' T H5 gT s5 => ?_⟩
    rw [e] at e'
    cases e'
    walk_at "rf"
    have s35 := s4.trans s5
    refine ⟨_, _, rfl, .tuple [.str "place", .int (pl : Nat)], ld_two gT (by decide +kernel) rfl, ld_two (s35 _ _ g2) (by decide +kernel) rfl, fun H6 s6 => ⟨true, rfl, ?_⟩⟩
    walk_at "rf"
    have s06 := s12.trans (s35.trans s6)
    refine r_toT (SqL.of (s06 _ _ hp)) fun qs H7 nq gq s7 => ?_
    walk_at "rf"
    refine ⟨_, rfl, qs, os, rfl, .inr gq, hS, fun t' e' => (by rw [e] at e'; cases e'), fun k e' T2 H8 gT2 s8 => ?_⟩
    rw [e] at e'
    cases e'
    walk_at "rf"
    have s38 := s35.trans (s6.trans (s7.trans s8))
    refine ⟨_, _, rfl, .tuple [.str "place", .int (pl : Nat)], ld_two gT2 (by decide +kernel) rfl, ld_two (s38 _ _ g2) (by decide +kernel) rfl, fun H9 s9 => ⟨true, rfl, ?_⟩⟩
    walk_at "rf"
    have s49 := s5.trans (s6.trans (s7.trans (s8.trans s9)))
    refine r_eqIL (SqL.of (s49 _ _ gp)) (SqL.of ((s4.trans s49) _ _ (s12 _ _ hp))) ?_
    rw [decide_eq_true rfl]
    exact h _ (s12.trans (s4.trans s49))
end

/-! ### the law -/

def oddB : List Int := [105, 108, 100, 101, 58, 45, 48, 49, 50, 57, 97, 195, 169, 128, 32]
theorem odd_octB : Oct oddB := fun c hc => by
  unfold oddB at hc
  simp only [List.mem_cons, List.not_mem_nil, or_false] at hc
  omega
section
variable {P : Program} {w : World} {K : PySem.W.Frag} {mg : Str → Option Value} {base : Heap} {f : Addr} {fd : FuncData}
theorem ok_law (F : FunD K "law" "law" (defArgs s_law) (defBody s_law) (defScope s_law) [] [] (glAd "law" K) fd) (nb : Nm K mg) (c__law_cell : Cal P w K mg base 1 "_law_cell" (sp__law_cell K) []) (c__law_state : Cal P w K mg base 2 "_law_state" (sp__law_state K) []) (c__law_next : Cal P w K mg base 1 "_law_next" (sp__law_next K) []) (c__law_value : Cal P w K mg base 10 "_law_value" (sp__law_value K 5) []) (c__law_tall : Cal P w K mg base 2 "_law_tall" (sp__law_tall K) []) (c__law_planted : Cal P w K mg base 35 "_law_planted" (sp__law_planted K 31) []) (c__law_spoilt : Cal P w K mg base 2 "_law_spoilt" (sp__law_spoilt K) []) (c__law_right : Cal P w K mg base 92 "_law_right" (sp__law_right K) []) : FnOk P w K mg base CX0 93 (glAd "law" K) fd ["script"] (sp_law K) := by
  refine fnD F sc_law len1 (fun cdv A outer s H vs Q E hr h => ⟨_, (pss_cons (ps_set (i := 1) sc_law.nd rfl (Or.inr rfl) (pe_c c__law_state hr (by decide) rfl (pa_cons (pv 0) (pa_cons (pe_op op_add pe_int (pe_op op_mod (pe_callTy call_int1 (by rfl) nb.int (by decide +kernel) (pa_cons (pe_callB call_abs (by rfl) nb.abs (by decide +kernel) (pa_cons (pe_c c__law_cell hr (by decide) rfl (pa_cons (pv 0) (pa_cons pe_int pa_nil))) pa_nil)) pa_nil)) pe_int)) pa_nil))))
    (pss_cons (ps_set (i := 2) sc_law.nd rfl (Or.inr rfl) (pe_lstE (pa_cons pe_int (pa_cons pe_int (pa_cons pe_int (pa_cons pe_int (pa_cons pe_int (pa_cons pe_int (pa_cons pe_int (pa_cons pe_int (pa_cons pe_int (pa_cons pe_int (pa_cons pe_int (pa_cons pe_int (pa_cons pe_int (pa_cons pe_int (pa_cons pe_int pa_nil)))))))))))))))))
    (pss_cons (ps_set (i := 3) sc_law.nd rfl (Or.inl rfl) (pe_c c__law_tall hr (by decide) rfl (pa_cons (pv 1) (pa_cons (pe_c c__law_value hr (by decide) rfl (pa_cons (pv 1) (pa_cons pe_int (pa_cons (pe_lstE (pa_cons pe_str (pa_cons pe_str pa_nil))) (pa_cons pe_bl pa_nil))))) (pa_cons pe_bl pa_nil)))))
    (pss_cons (ps_set (i := 4) sc_law.nd rfl (Or.inl rfl) (pe_c c__law_planted hr (by decide) rfl (pa_cons (pv 1) (pa_cons (pv 3) pa_nil))))
    (pss_cut (ps_if (pt_cmpR op_eq (pe_c c__law_next hr (by decide) rfl (pa_cons (pv 1) (pa_cons pe_int pa_nil))) pe_int (nomark _))
    (pss_one (ps_set (i := 4) sc_law.nd rfl (Or.inl rfl) (pe_op op_cat (pv 4) (pe_lstE (pa_cons (pe_c c__law_next hr (by decide) rfl (pa_cons (pv 1) (pa_cons pe_int pa_nil))) pa_nil)))))
    pss_nil)
    (pss_cons (ps_if (PW.pt (pw_or (pt_not (pt_val (pe_c c__law_right hr (by decide) rfl (pa_cons (pv 4) pa_nil)))) (pw_or1 (pt_not (pt_val (pe_c c__law_right hr (by decide) rfl (pa_cons (pe_c c__law_spoilt hr (by decide) rfl (pa_cons (pv 1) (pa_cons (pv 4) (pa_cons (pv 2) pa_nil)))) pa_nil)))))))
    (pss_one (ps_ret pe_bl))
    pss_nil)
    (pss_cons (ps_for PassesOwn.never rfl (pi_range1 rfl nb.range (pa_cons pe_int pa_nil)) (pg_name (i := 5) sc_law.nd rfl (Or.inl rfl))
    (pss_cons (ps_setLc (i := 4) (own := [("j", 6)]) (g := gName 6) (tt := tYes) rfl sc_law.nd rfl rfl (sw_true rfl rfl rfl (by decide +kernel)) (pi_range1 rfl nb.range (pa_cons (pe_c c__law_next hr (by decide) rfl (pa_cons (pv 1) (pa_cons pe_int pa_nil))) pa_nil)) (blkOk_by (N := ["script", "state", "menu", "value", "octets", "k", "j"]) (sc := defScope s_law) (by decide +kernel)) (fun _ _ _ _ _ => pg_name (i := 6) sc_law.nd rfl (Or.inl rfl)) (fun _ _ _ _ _ => pts_nil) (fun _ _ _ _ _ => (pe_ix (show IxR _ (rIxL K) from ix_list) (pv 2) (pe_c c__law_next hr (by decide) rfl (pa_cons (pv 1) (pa_cons pe_int pa_nil))) (fun _ _ => rfl))))
    (pss_one (ps_if (pt_not (pt_val (pe_c c__law_right hr (by decide) rfl (pa_cons (pv 4) pa_nil))))
    (pss_one (ps_ret pe_bl))
    pss_nil))))
    (pss_one (ps_ret pe_bl))))))))), ?_⟩)
  obtain ⟨_, rfl, sl, ns, rfl, hs, h⟩ := h
  -- 0:script 1:state 2:menu 3:value 4:octets 5:k 6:j
  walk_at "rf"
  refine ⟨_, _, rfl, sl, ns, 0, rfl, rfl, hs, by decide, fun z => ?_⟩
  walk_at "rf"
  refine ⟨_, _, rfl, sl, ns, 8 + (z.natAbs : Int) % 30, rfl, by congr 2; split <;> omega, hs, fun S H1 eS1 eS2 L1 s1 nS => ?_⟩
  walk_at "rf"
  refine ⟨by show 15 ≤ sizeLine; decide, fun qm Hm fm gm sm => ?_⟩
  have gm : Hm qm = some (.lst (oddB.map V.int)) := gm
  have Lm := L1.same sm
  have nm := L1.ne_free fm
  walk_at "rf"
  refine ⟨by show 2 ≤ sizeLine; decide, fun kl H2 nk gk s2 => ?_⟩
  have L2 := Lm.same s2
  have kn := Lm.ne_free nk
  walk_at "rf"
  refine ⟨_, _, _, _, rfl, S, _, 4, kl, rfl, rfl, rfl, rfl, kn, gk, by decide, L2, fun v t l3 H3 bf bud tp L3 k3 => ?_⟩
  walk_at "rf"
  refine ⟨_, _, _, rfl, S, _, t, rfl, rfl, L3, tp, bf, fun v4 t4 n4 H4 hn4 bf4 sz4 tp4 L4 k4 => ?_⟩
  have vs4 : vsz t4 ≤ 4060 := by
    unfold Bud at bud
    omega
  walk_at "rf"
  refine ⟨_, _, rfl, S, _, t4, n4, rfl, tp4, bf4, by omega, L4, by omega, fun p5 os H5 g5 l5 o5 L5 k5 n5 => ?_⟩
  have gm5 := k5 _ _ nm (k4 _ _ nm (k3 _ _ nm (s2 _ _ gm)))
  have ol : os.length ≤ 8120000 := by omega
  clear tp4 bf4 bf tp vs4 sz4 bud l5
  walk_at "rg"
  refine r_cut (fun σ H' => ∃ (p6 : Addr) (os6 : List Int), H' p6 = some (.lst (os6.map V.int)) ∧ os6.length ≤ 8120001 ∧ Oct os6 ∧ LB K S l3 H' ∧ H' qm = some (.lst (oddB.map V.int)) ∧ p6 ≠ S.a ∧ ∃ (y5 y6 : Option V), σ = [some (.ref sl), some (.ref S.a), some (.ref qm), some v4, some (.ref p6), y5, y6]) ?_ ?_
  · walk_at "rf"
    refine b_next L5 (by decide) fun r6 H6 a6 b6 L6 k6 => ?_
    walk_at "rf"
    refine r_ite (fun c => ?_) (fun c => ?_)
    · walk_at "rf"
      refine b_next L6 (by decide) fun ra Ha aa ba La ka => ?_
      walk_at "rf"
      refine ⟨by show 1 ≤ sizeLine; decide, fun pb Hb fb gb sb => ?_⟩
      walk_at "rf"
      refine r_catB (ys := [ra]) (sb _ _ (ka _ _ n5 (k6 _ _ n5 g5))) gb (by show _ + 1 ≤ _; omega) fun pc Hc fc gc sc => ?_
      walk_at "rf"
      exact ⟨pc, os ++ [ra], gc, by rw [List.length_append]; show _ + 1 ≤ _; omega, o5.app (oct_one aa (by omega)), (La.same sb).same sc, sc _ _ (sb _ _ (ka _ _ nm (k6 _ _ nm gm5))), (La.same sb).ne_free fc, _, _, rfl⟩
    · walk_at "rf"
      exact ⟨p5, os, k6 _ _ n5 g5, by omega, o5, L6, k6 _ _ nm gm5, n5, _, _, rfl⟩
  rintro σ H6 ⟨p6, os6, g6, l6, o6, L6, gm6, n6, y5, y6, rfl⟩
  walk_at "rf"
  refine ⟨_, rfl, p6, os6, rfl, g6, by omega, o6, fun H7 s7 => ?_⟩
  walk_at "rf"
  refine ⟨_, _, _, rfl, S, _, p6, os6, qm, oddB, rfl, rfl, rfl, L6.same s7, s7 _ _ g6, s7 _ _ gm6, by omega, o6, rfl, odd_octB, n6, nm, fun p8 os8 H8 g8 l8 o8 L8 k8 n8 => ?_⟩
  walk_at "rf"
  refine ⟨_, rfl, p8, os8, rfl, g8, by omega, o8, fun H9 s9 => ?_⟩
  have gm9 := s9 _ _ (k8 _ _ nm (s7 _ _ gm6))
  have L9 := L8.same s9
  clear g6 l6 o6 L6 gm6 n6 g8 l8 o8 L8 k8 n8 s7 s9
  walk_at "rf"
  refine r_turns (by decide) (by decide) (fun i σ H' => LB K S l3 H' ∧ H' qm = some (.lst (oddB.map V.int)) ∧ ∃ (p6 : Addr) (y5 y6 : Option V), σ = [some (.ref sl), some (.ref S.a), some (.ref qm), some v4, some (.ref p6), y5, y6]) ⟨L9, gm9, _, _, _, rfl⟩ ?_ ?_
  · rintro i σ Hi hi ⟨Li, gi, p6, y5, y6, rfl⟩
    walk_at "rf"
    refine b_next Li (by decide) fun r1 Hj a1 b1 Lj kj => ?_
    have gj := kj _ _ nm gi
    walk_at "rf"
    refine ⟨by omega, by omega, fun D nD => ?_⟩
    have DS := Lj.ne_free nD
    refine lc_range (fun i H' => LB K S l3 H' ∧ H' qm = some (.lst (oddB.map V.int)) ∧ i ≤ 24 ∧ ∃ cs : List Int, cs.length = i ∧ Oct cs ∧ H' D = some (.lst (cs.map V.int))) ⟨Lj.new nD _, same_upd nD _ _ _ gj, Nat.zero_le _, [], rfl, oct_nil, upd_same⟩ ?_ ?_
    · rintro k Hk hk ⟨Lk, gk, hk2, cs, e1, eo, e2⟩
      walk_at "rf"
      refine ⟨rfl, ?_⟩
      walk_at "rf"
      refine b_next Lk (by decide) fun c Hl a2 b2 Ll kl2 => ?_
      have hj : c.toNat < oddB.length := by
        show c.toNat < 15
        omega
      have ej : c = ((c.toNat : Nat) : Int) := by omega
      rw [ej]
      refine r_ixL (SqL.of (kl2 _ _ nm gk)) (atI_nat (v := V.int oddB[c.toNat]) (by rw [List.getElem?_map, List.getElem?_eq_getElem hj]; rfl)) ?_
      obtain ⟨c0, c1⟩ := odd_octB oddB[c.toNat] (List.getElem_mem hj)
      generalize oddB[c.toNat] = o at c0 c1
      have qD : qm ≠ D := ne_of_none gj nD
      refine ⟨_, kl2 _ _ DS e2, small1000 (by rw [List.length_map]; omega), Lj.away nD Ll _, (upd_ne qD).trans (kl2 _ _ nm gk), by omega, cs ++ [o], by rw [List.length_append, e1]; rfl, eo.one c0 c1, by rw [upd_same, map_snoc]⟩
    rintro Hk ⟨Lk, gk, hk2, cs, e1, eo, e2⟩
    walk_at "rf"
    refine ⟨_, rfl, D, cs, rfl, e2, by omega, eo, fun Hm2 sm2 => ?_⟩
    walk_at "rf"
    exact ⟨Lk.same sm2, sm2 _ _ gk, _, _, _, rfl⟩
  · rintro σ Hi ⟨Li, gi, p6, y5, y6, rfl⟩
    walk_at "rf"
    exact h _
end

theorem facts {P : Program} {w : World} {K : PySem.W.Frag} {h : Heap} {mg : Str → Option Value} {f : Addr} (X : K.In h) (G : h.Ns mainGlobals mg) (hfa : mg ("law" : Str) = some (.ref f)) (c : SaysM fa ex fn K) :
    ∃ fd : FuncData, (∀ (s : Shared) (v : Value), BindsTo s fd ⟨[v], []⟩ [("script", v)]) ∧ ∀ base : Heap, K.In base → base.Ns mainGlobals mg → FnOk P w K mg base CX0 93 f fd ["script"] (sp_law K) := by
  obtain ⟨fd__law_cell, F__law_cell⟩ := c.def_ 0 (d := d__law_cell) rfl
  obtain ⟨fd__law_numbers, F__law_numbers⟩ := c.def_ 1 (d := d__law_numbers) rfl
  obtain ⟨fd__law_state, F__law_state⟩ := c.def_ 2 (d := d__law_state) rfl
  obtain ⟨fd__law_next, F__law_next⟩ := c.def_ 3 (d := d__law_next) rfl
  obtain ⟨fd__law_many, F__law_many⟩ := c.def_ 4 (d := d__law_many) rfl
  obtain ⟨fd__law_points, F__law_points⟩ := c.def_ 5 (d := d__law_points) rfl
  obtain ⟨fd__law_big, F__law_big⟩ := c.def_ 6 (d := d__law_big) rfl
  obtain ⟨fd__law_normal, F__law_normal⟩ := c.def_ 7 (d := d__law_normal) rfl
  obtain ⟨fd__law_number, F__law_number⟩ := c.def_ 8 (d := d__law_number) rfl
  obtain ⟨fd__law_octets, F__law_octets⟩ := c.def_ 9 (d := d__law_octets) rfl
  obtain ⟨fd__law_leaf, F__law_leaf⟩ := c.def_ 10 (d := d__law_leaf) rfl
  obtain ⟨fd__law_value, F__law_value⟩ := c.def_ 11 (d := d__law_value) rfl
  obtain ⟨fd__law_tall, F__law_tall⟩ := c.def_ 12 (d := d__law_tall) rfl
  obtain ⟨fd__law_mixed, F__law_mixed⟩ := c.def_ 13 (d := d__law_mixed) rfl
  obtain ⟨fd__law_ascii, F__law_ascii⟩ := c.def_ 14 (d := d__law_ascii) rfl
  obtain ⟨fd__law_count_planted, F__law_count_planted⟩ := c.def_ 15 (d := d__law_count_planted) rfl
  obtain ⟨fd__law_leaf_planted, F__law_leaf_planted⟩ := c.def_ 16 (d := d__law_leaf_planted) rfl
  obtain ⟨fd__law_utf8, F__law_utf8⟩ := c.def_ 17 (d := d__law_utf8) rfl
  obtain ⟨fd__law_key_planted, F__law_key_planted⟩ := c.def_ 18 (d := d__law_key_planted) rfl
  obtain ⟨fd__law_planted, F__law_planted⟩ := c.def_ 19 (d := d__law_planted) rfl
  obtain ⟨fd__law_spoilt, F__law_spoilt⟩ := c.def_ 20 (d := d__law_spoilt) rfl
  obtain ⟨fd__law_same, F__law_same⟩ := c.def_ 21 (d := d__law_same) rfl
  obtain ⟨fd__law_count, F__law_count⟩ := c.def_ 22 (d := d__law_count) rfl
  obtain ⟨fd__law_counted, F__law_counted⟩ := c.def_ 23 (d := d__law_counted) rfl
  obtain ⟨fd__law_integer_read, F__law_integer_read⟩ := c.def_ 24 (d := d__law_integer_read) rfl
  obtain ⟨fd__law_decode, F__law_decode⟩ := c.def_ 25 (d := d__law_decode) rfl
  obtain ⟨fd__law_key_read, F__law_key_read⟩ := c.def_ 26 (d := d__law_key_read) rfl
  obtain ⟨fd__law_parts_read, F__law_parts_read⟩ := c.def_ 27 (d := d__law_parts_read) rfl
  obtain ⟨fd__law_value_read, F__law_value_read⟩ := c.def_ 28 (d := d__law_value_read) rfl
  obtain ⟨fd__law_text_read, F__law_text_read⟩ := c.def_ 29 (d := d__law_text_read) rfl
  obtain ⟨fd_AlikeError___init__, F_AlikeError___init__⟩ := c.def_ 30 (d := d_AlikeError___init__) rfl
  obtain ⟨fd_Nest___init__, F_Nest___init__⟩ := c.def_ 31 (d := d_Nest___init__) rfl
  obtain ⟨fd_BencodeScanner___init__, F_BencodeScanner___init__⟩ := c.def_ 32 (d := d_BencodeScanner___init__) rfl
  obtain ⟨fd_is_digit, F_is_digit⟩ := c.def_ 33 (d := d_is_digit) rfl
  obtain ⟨fd_Counted__take_in_count, F_Counted__take_in_count⟩ := c.def_ 34 (d := d_Counted__take_in_count) rfl
  obtain ⟨fd_Counted_take, F_Counted_take⟩ := c.def_ 35 (d := d_Counted_take) rfl
  obtain ⟨fd_normal, F_normal⟩ := c.def_ 36 (d := d_normal) rfl
  obtain ⟨fd_Numeral_pair, F_Numeral_pair⟩ := c.def_ 37 (d := d_Numeral_pair) rfl
  obtain ⟨fd_Numeral_negate, F_Numeral_negate⟩ := c.def_ 38 (d := d_Numeral_negate) rfl
  obtain ⟨fd_BencodeNumber__take_minus, F_BencodeNumber__take_minus⟩ := c.def_ 39 (d := d_BencodeNumber__take_minus) rfl
  obtain ⟨fd_Numeral_add_digit, F_Numeral_add_digit⟩ := c.def_ 40 (d := d_Numeral_add_digit) rfl
  obtain ⟨fd_BencodeNumber__take_digit, F_BencodeNumber__take_digit⟩ := c.def_ 41 (d := d_BencodeNumber__take_digit) rfl
  obtain ⟨fd_BencodeNumber_take, F_BencodeNumber_take⟩ := c.def_ 42 (d := d_BencodeNumber_take) rfl
  obtain ⟨fd_Utf8_is_open, F_Utf8_is_open⟩ := c.def_ 43 (d := d_Utf8_is_open) rfl
  obtain ⟨fd_Utf8__begin, F_Utf8__begin⟩ := c.def_ 44 (d := d_Utf8__begin) rfl
  obtain ⟨fd_Utf8__go_on, F_Utf8__go_on⟩ := c.def_ 45 (d := d_Utf8__go_on) rfl
  obtain ⟨fd_Utf8_take, F_Utf8_take⟩ := c.def_ 46 (d := d_Utf8_take) rfl
  obtain ⟨fd_BencodeKey_take, F_BencodeKey_take⟩ := c.def_ 47 (d := d_BencodeKey_take) rfl
  obtain ⟨fd_Counted_leaf, F_Counted_leaf⟩ := c.def_ 48 (d := d_Counted_leaf) rfl
  obtain ⟨fd_BencodeNumber_leaf, F_BencodeNumber_leaf⟩ := c.def_ 49 (d := d_BencodeNumber_leaf) rfl
  obtain ⟨fd_BencodeKey_leaf, F_BencodeKey_leaf⟩ := c.def_ 50 (d := d_BencodeKey_leaf) rfl
  obtain ⟨fd_Nest_note_key, F_Nest_note_key⟩ := c.def_ 51 (d := d_Nest_note_key) rfl
  obtain ⟨fd_Nest_inner, F_Nest_inner⟩ := c.def_ 52 (d := d_Nest_inner) rfl
  obtain ⟨fd_BencodeScanner__end_value, F_BencodeScanner__end_value⟩ := c.def_ 53 (d := d_BencodeScanner__end_value) rfl
  obtain ⟨fd_BencodeScanner__end_token, F_BencodeScanner__end_token⟩ := c.def_ 54 (d := d_BencodeScanner__end_token) rfl
  obtain ⟨fd_Counted___init__, F_Counted___init__⟩ := c.def_ 55 (d := d_Counted___init__) rfl
  obtain ⟨fd_Numeral___init__, F_Numeral___init__⟩ := c.def_ 56 (d := d_Numeral___init__) rfl
  obtain ⟨fd_BencodeNumber___init__, F_BencodeNumber___init__⟩ := c.def_ 57 (d := d_BencodeNumber___init__) rfl
  obtain ⟨fd_Utf8___init__, F_Utf8___init__⟩ := c.def_ 58 (d := d_Utf8___init__) rfl
  obtain ⟨fd_BencodeKey___init__, F_BencodeKey___init__⟩ := c.def_ 59 (d := d_BencodeKey___init__) rfl
  obtain ⟨fd_BencodeScanner__begin_counted, F_BencodeScanner__begin_counted⟩ := c.def_ 60 (d := d_BencodeScanner__begin_counted) rfl
  obtain ⟨fd_Nest_grow, F_Nest_grow⟩ := c.def_ 61 (d := d_Nest_grow) rfl
  obtain ⟨fd_BencodeScanner__grow, F_BencodeScanner__grow⟩ := c.def_ 62 (d := d_BencodeScanner__grow) rfl
  obtain ⟨fd_Nest_shrink, F_Nest_shrink⟩ := c.def_ 63 (d := d_Nest_shrink) rfl
  obtain ⟨fd_BencodeScanner__close, F_BencodeScanner__close⟩ := c.def_ 64 (d := d_BencodeScanner__close) rfl
  obtain ⟨fd_BencodeScanner__take_mark, F_BencodeScanner__take_mark⟩ := c.def_ 65 (d := d_BencodeScanner__take_mark) rfl
  obtain ⟨fd_BencodeScanner__take, F_BencodeScanner__take⟩ := c.def_ 66 (d := d_BencodeScanner__take) rfl
  obtain ⟨fd_BencodeScanner_step, F_BencodeScanner_step⟩ := c.def_ 67 (d := d_BencodeScanner_step) rfl
  obtain ⟨fd_BencodeScanner_end, F_BencodeScanner_end⟩ := c.def_ 68 (d := d_BencodeScanner_end) rfl
  obtain ⟨fd_Builder___init__, F_Builder___init__⟩ := c.def_ 69 (d := d_Builder___init__) rfl
  obtain ⟨fd_Frame___init__, F_Frame___init__⟩ := c.def_ 70 (d := d_Frame___init__) rfl
  obtain ⟨fd_list_of, F_list_of⟩ := c.def_ 71 (d := d_list_of) rfl
  obtain ⟨fd_map_of, F_map_of⟩ := c.def_ 72 (d := d_map_of) rfl
  obtain ⟨fd_Frame_built, F_Frame_built⟩ := c.def_ 73 (d := d_Frame_built) rfl
  obtain ⟨fd_Frame_put, F_Frame_put⟩ := c.def_ 74 (d := d_Frame_put) rfl
  obtain ⟨fd_Builder__put, F_Builder__put⟩ := c.def_ 75 (d := d_Builder__put) rfl
  obtain ⟨fd_Builder_take, F_Builder_take⟩ := c.def_ 76 (d := d_Builder_take) rfl
  obtain ⟨fd__take_all, F__take_all⟩ := c.def_ 77 (d := d__take_all) rfl
  obtain ⟨fd_value_of_text, F_value_of_text⟩ := c.def_ 78 (d := d_value_of_text) rfl
  obtain ⟨fd_read_bencode, F_read_bencode⟩ := c.def_ 79 (d := d_read_bencode) rfl
  obtain ⟨fd__law_told, F__law_told⟩ := c.def_ 80 (d := d__law_told) rfl
  obtain ⟨fd__law_right, F__law_right⟩ := c.def_ 81 (d := d__law_right) rfl
  obtain ⟨fd_law, F_law⟩ := c.def_ 82 (d := d_law) rfl
  have m__law_cell := He.glo_ok X G (x := "_law_cell") (c.fact 0 rfl)
  have m__law_numbers := He.glo_ok X G (x := "_law_numbers") (c.fact 1 rfl)
  have m__law_state := He.glo_ok X G (x := "_law_state") (c.fact 2 rfl)
  have m__law_next := He.glo_ok X G (x := "_law_next") (c.fact 3 rfl)
  have m__law_many := He.glo_ok X G (x := "_law_many") (c.fact 4 rfl)
  have m__law_points := He.glo_ok X G (x := "_law_points") (c.fact 5 rfl)
  have m__law_big := He.glo_ok X G (x := "_law_big") (c.fact 6 rfl)
  have m__law_normal := He.glo_ok X G (x := "_law_normal") (c.fact 7 rfl)
  have m__law_number := He.glo_ok X G (x := "_law_number") (c.fact 8 rfl)
  have m__law_octets := He.glo_ok X G (x := "_law_octets") (c.fact 9 rfl)
  have m__law_leaf := He.glo_ok X G (x := "_law_leaf") (c.fact 10 rfl)
  have m__law_value := He.glo_ok X G (x := "_law_value") (c.fact 11 rfl)
  have m__law_tall := He.glo_ok X G (x := "_law_tall") (c.fact 12 rfl)
  have m__law_mixed := He.glo_ok X G (x := "_law_mixed") (c.fact 13 rfl)
  have m__law_ascii := He.glo_ok X G (x := "_law_ascii") (c.fact 14 rfl)
  have m__law_count_planted := He.glo_ok X G (x := "_law_count_planted") (c.fact 15 rfl)
  have m__law_leaf_planted := He.glo_ok X G (x := "_law_leaf_planted") (c.fact 16 rfl)
  have m__law_utf8 := He.glo_ok X G (x := "_law_utf8") (c.fact 17 rfl)
  have m__law_key_planted := He.glo_ok X G (x := "_law_key_planted") (c.fact 18 rfl)
  have m__law_planted := He.glo_ok X G (x := "_law_planted") (c.fact 19 rfl)
  have m__law_spoilt := He.glo_ok X G (x := "_law_spoilt") (c.fact 20 rfl)
  have m__law_same := He.glo_ok X G (x := "_law_same") (c.fact 21 rfl)
  have m__law_count := He.glo_ok X G (x := "_law_count") (c.fact 22 rfl)
  have m__law_counted := He.glo_ok X G (x := "_law_counted") (c.fact 23 rfl)
  have m__law_integer_read := He.glo_ok X G (x := "_law_integer_read") (c.fact 24 rfl)
  have m__law_decode := He.glo_ok X G (x := "_law_decode") (c.fact 25 rfl)
  have m__law_key_read := He.glo_ok X G (x := "_law_key_read") (c.fact 26 rfl)
  have m__law_parts_read := He.glo_ok X G (x := "_law_parts_read") (c.fact 27 rfl)
  have m__law_value_read := He.glo_ok X G (x := "_law_value_read") (c.fact 28 rfl)
  have m__law_text_read := He.glo_ok X G (x := "_law_text_read") (c.fact 29 rfl)
  have m_is_digit := He.glo_ok X G (x := "is_digit") (c.fact 30 rfl)
  have m_normal := He.glo_ok X G (x := "normal") (c.fact 31 rfl)
  have m_list_of := He.glo_ok X G (x := "list_of") (c.fact 32 rfl)
  have m_map_of := He.glo_ok X G (x := "map_of") (c.fact 33 rfl)
  have m__take_all := He.glo_ok X G (x := "_take_all") (c.fact 34 rfl)
  have m_value_of_text := He.glo_ok X G (x := "value_of_text") (c.fact 35 rfl)
  have m_read_bencode := He.glo_ok X G (x := "read_bencode") (c.fact 36 rfl)
  have m__law_told := He.glo_ok X G (x := "_law_told") (c.fact 37 rfl)
  have m__law_right := He.glo_ok X G (x := "_law_right") (c.fact 38 rfl)
  have m_law := He.glo_ok X G (x := "law") (c.fact 39 rfl)
  have xx : ex K = true := c.more
  have x0 := (both xx).1
  replace xx := (both xx).2
  have x1 := (both xx).1
  replace xx := (both xx).2
  have x2 := (both xx).1
  replace xx := (both xx).2
  have x3 := (both xx).1
  replace xx := (both xx).2
  have x4 := (both xx).1
  replace xx := (both xx).2
  have x5 := (both xx).1
  replace xx := (both xx).2
  have x6 := (both xx).1
  replace xx := (both xx).2
  have x7 := (both xx).1
  replace xx := (both xx).2
  have x8 := (both xx).1
  replace xx := (both xx).2
  have x9 := (both xx).1
  replace xx := (both xx).2
  have x10 := (both xx).1
  replace xx := (both xx).2
  have x11 := (both xx).1
  replace xx := (both xx).2
  have x12 := xx
  have nb : Nm K mg := ⟨He.free_ok X G (c.fact 40 rfl),
    He.free_ok X G (c.fact 41 rfl),
    He.free_ok X G (c.fact 42 rfl),
    He.free_ok X G (c.fact 43 rfl),
    He.free_ok X G (c.fact 44 rfl),
    He.free_ok X G (c.fact 45 rfl),
    He.free_ok X G (c.fact 46 rfl),
    He.free_ok X G (c.fact 47 rfl),
    He.free_ok X G (c.fact 48 rfl),
    He.free_ok X G (c.fact 49 rfl),
    He.free_ok X G (c.fact 50 rfl),
    He.free_ok X G (c.fact 51 rfl),
    conI X G (c.fact 52 rfl),
    conI X G (c.fact 53 rfl),
    conI X G (c.fact 54 rfl),
    conI X G (c.fact 55 rfl),
    conI X G (c.fact 56 rfl),
    conM X G x0,
    conM X G x1,
    conI X G (c.fact 57 rfl),
    conI X G (c.fact 58 rfl),
    conI X G (c.fact 59 rfl),
    conI X G (c.fact 60 rfl),
    conI X G (c.fact 61 rfl),
    conI X G (c.fact 62 rfl),
    conI X G (c.fact 63 rfl),
    conI X G (c.fact 64 rfl),
    He.glo_ok X G (c.fact 65 rfl),
    exkM x2,
    He.glo_ok X G (c.fact 66 rfl),
    exkM x3,
    He.glo_ok X G (c.fact 67 rfl),
    exkM x4,
    He.glo_ok X G (c.fact 68 rfl),
    exkM x5,
    isxM x6,
    of_decide_eq_true x7,
    of_decide_eq_true x8,
    of_decide_eq_true x9,
    of_decide_eq_true x10,
    He.cls_ok (c.fact 69 rfl),
    He.glo_ok X G (c.fact 70 rfl),
    He.mkr_ok (c.fact 71 rfl),
    He.noat_ok (c.fact 72 rfl),
    He.noat_ok (c.fact 73 rfl),
    He.noat_ok (c.fact 74 rfl),
    He.noat_ok (c.fact 75 rfl),
    He.noat_ok (c.fact 76 rfl),
    He.meth_ok (c.fact 77 rfl),
    He.meth_ok (c.fact 78 rfl),
    He.meth_ok (c.fact 79 rfl),
    He.cls_ok (c.fact 80 rfl),
    He.glo_ok X G (c.fact 81 rfl),
    He.mkr_ok (c.fact 82 rfl),
    He.noat_ok (c.fact 83 rfl),
    He.noat_ok (c.fact 84 rfl),
    He.noat_ok (c.fact 85 rfl),
    He.noat_ok (c.fact 86 rfl),
    He.noat_ok (c.fact 87 rfl),
    He.meth_ok (c.fact 88 rfl),
    He.meth_ok (c.fact 89 rfl),
    He.meth_ok (c.fact 90 rfl),
    He.meth_ok (c.fact 91 rfl),
    He.meth_ok (c.fact 92 rfl),
    He.meth_ok (c.fact 93 rfl),
    He.cls_ok (c.fact 94 rfl),
    He.glo_ok X G (c.fact 95 rfl),
    He.mkr_ok (c.fact 96 rfl),
    He.noat_ok (c.fact 97 rfl),
    He.noat_ok (c.fact 98 rfl),
    He.noat_ok (c.fact 99 rfl),
    He.noat_ok (c.fact 100 rfl),
    He.noat_ok (c.fact 101 rfl),
    prM x11,
    He.meth_ok (c.fact 102 rfl),
    He.meth_ok (c.fact 103 rfl),
    He.meth_ok (c.fact 104 rfl),
    He.cls_ok (c.fact 105 rfl),
    He.glo_ok X G (c.fact 106 rfl),
    He.mkr_ok (c.fact 107 rfl),
    He.noat_ok (c.fact 108 rfl),
    He.noat_ok (c.fact 109 rfl),
    He.noat_ok (c.fact 110 rfl),
    He.meth_ok (c.fact 111 rfl),
    He.meth_ok (c.fact 112 rfl),
    He.meth_ok (c.fact 113 rfl),
    He.meth_ok (c.fact 114 rfl),
    He.cls_ok (c.fact 115 rfl),
    He.glo_ok X G (c.fact 116 rfl),
    He.mkr_ok (c.fact 117 rfl),
    He.noat_ok (c.fact 118 rfl),
    He.noat_ok (c.fact 119 rfl),
    He.noat_ok (c.fact 120 rfl),
    He.meth_ok (c.fact 121 rfl),
    He.meth_ok (c.fact 122 rfl),
    He.cls_ok (c.fact 123 rfl),
    He.glo_ok X G (c.fact 124 rfl),
    He.mkr_ok (c.fact 125 rfl),
    He.noat_ok (c.fact 126 rfl),
    He.meth_ok (c.fact 127 rfl),
    He.meth_ok (c.fact 128 rfl),
    He.meth_ok (c.fact 129 rfl),
    He.meth_ok (c.fact 130 rfl),
    He.cls_ok (c.fact 131 rfl),
    He.glo_ok X G (c.fact 132 rfl),
    He.mkr_ok (c.fact 133 rfl),
    He.noat_ok (c.fact 134 rfl),
    He.noat_ok (c.fact 135 rfl),
    He.noat_ok (c.fact 136 rfl),
    He.noat_ok (c.fact 137 rfl),
    He.meth_ok (c.fact 138 rfl),
    He.meth_ok (c.fact 139 rfl),
    He.meth_ok (c.fact 140 rfl),
    He.meth_ok (c.fact 141 rfl),
    He.meth_ok (c.fact 142 rfl),
    He.meth_ok (c.fact 143 rfl),
    He.meth_ok (c.fact 144 rfl),
    He.meth_ok (c.fact 145 rfl),
    He.meth_ok (c.fact 146 rfl),
    He.cls_ok (c.fact 147 rfl),
    He.glo_ok X G (c.fact 148 rfl),
    He.mkr_ok (c.fact 149 rfl),
    He.noat_ok (c.fact 150 rfl),
    He.noat_ok (c.fact 151 rfl),
    He.noat_ok (c.fact 152 rfl),
    He.meth_ok (c.fact 153 rfl),
    He.meth_ok (c.fact 154 rfl),
    He.cls_ok (c.fact 155 rfl),
    He.glo_ok X G (c.fact 156 rfl),
    He.mkr_ok (c.fact 157 rfl),
    He.noat_ok (c.fact 158 rfl),
    He.noat_ok (c.fact 159 rfl),
    He.noat_ok (c.fact 160 rfl),
    He.meth_ok (c.fact 161 rfl),
    He.meth_ok (c.fact 162 rfl),
    digK_ok x12⟩
  have e := hfa.symm.trans m_law
  cases e
  have b := FunD.bindsA (ps := ["script"]) F_law fun _ _ _ _ _ _ us hl => match us, hl with | [_], _ => rfl
  refine ⟨fd_law, fun s v => b s [v] rfl, fun base _ _ => ?_⟩
  have c__law_cell := ok__law_cell (P := P) (w := w) (base := base) F__law_cell m__law_cell nb
  have c__law_numbers := ok__law_numbers (P := P) (w := w) (base := base) F__law_numbers m__law_numbers nb
  have c__law_state := ok__law_state (P := P) (w := w) (base := base) F__law_state m__law_state nb c__law_cell c__law_numbers
  have c__law_next := ok__law_next (P := P) (w := w) (base := base) F__law_next m__law_next nb
  have c__law_many := ok__law_many (P := P) (w := w) (base := base) F__law_many m__law_many nb c__law_next
  have c__law_points := ok__law_points (P := P) (w := w) (base := base) F__law_points m__law_points nb c__law_next c__law_many
  have c__law_big := ok__law_big (P := P) (w := w) (base := base) F__law_big m__law_big nb c__law_cell c__law_next
  have c__law_normal := ok__law_normal (P := P) (w := w) (base := base) F__law_normal m__law_normal nb
  have c__law_number := ok__law_number (P := P) (w := w) (base := base) F__law_number m__law_number nb c__law_next c__law_big c__law_normal
  have c__law_octets := ok__law_octets (P := P) (w := w) (base := base) F__law_octets m__law_octets nb c__law_next c__law_many
  have c__law_leaf := ok__law_leaf (P := P) (w := w) (base := base) F__law_leaf m__law_leaf nb c__law_next c__law_number c__law_points c__law_octets
  have c__law_value := rec__law_value (P := P) (w := w) (base := base) F__law_value m__law_value nb c__law_next c__law_many c__law_points c__law_leaf 5
  have c__law_tall := ok__law_tall (P := P) (w := w) (base := base) F__law_tall m__law_tall nb c__law_next
  have c__law_mixed := ok__law_mixed (P := P) (w := w) (base := base) F__law_mixed m__law_mixed nb c__law_next
  have c__law_ascii := ok__law_ascii (P := P) (w := w) (base := base) F__law_ascii m__law_ascii nb
  have c__law_count_planted := ok__law_count_planted (P := P) (w := w) (base := base) F__law_count_planted m__law_count_planted nb c__law_next c__law_ascii
  have c__law_leaf_planted := ok__law_leaf_planted (P := P) (w := w) (base := base) F__law_leaf_planted m__law_leaf_planted nb c__law_next c__law_ascii c__law_count_planted
  have c__law_utf8 := ok__law_utf8 (P := P) (w := w) (base := base) F__law_utf8 m__law_utf8 nb
  have c__law_key_planted := ok__law_key_planted (P := P) (w := w) (base := base) F__law_key_planted m__law_key_planted nb c__law_next c__law_utf8 c__law_count_planted
  have c__law_planted := rec__law_planted (P := P) (w := w) (base := base) F__law_planted m__law_planted nb c__law_next c__law_mixed c__law_leaf_planted c__law_key_planted 31
  have c__law_spoilt := ok__law_spoilt (P := P) (w := w) (base := base) F__law_spoilt m__law_spoilt nb c__law_next
  have c__law_same := rec__law_same (P := P) (w := w) (base := base) F__law_same m__law_same nb 90
  have c__law_count := ok__law_count (P := P) (w := w) (base := base) F__law_count m__law_count nb
  have c__law_counted := ok__law_counted (P := P) (w := w) (base := base) F__law_counted m__law_counted nb c__law_count
  have c__law_integer_read := ok__law_integer_read (P := P) (w := w) (base := base) F__law_integer_read m__law_integer_read nb c__law_normal c__law_count
  have c__law_decode := ok__law_decode (P := P) (w := w) (base := base) F__law_decode m__law_decode nb
  have c__law_key_read := ok__law_key_read (P := P) (w := w) (base := base) F__law_key_read m__law_key_read nb c__law_decode c__law_counted
  have c__law_value_read := rec__law_value_read (P := P) (w := w) (base := base) F__law_parts_read m__law_parts_read F__law_value_read m__law_value_read nb c__law_counted c__law_integer_read c__law_key_read 26
  have c__law_text_read := ok__law_text_read (P := P) (w := w) (base := base) F__law_text_read m__law_text_read nb c__law_value_read
  have z_Doubled : Raz P w K mg base "Doubled" (C_Doubled K) "what" := razM F_AlikeError___init__ sc_AlikeError___init__ nb.x_Doubled nb.g_Doubled (fun _ _ _ _ _ _ _ us its hu hi => match us, its, hu, hi with | [_, _], [_], _, _ => ⟨_, rfl, rfl⟩) (fun _ _ _ _ _ _ => pss_one (ps_ost (pv 0) (pv 1)))
  have z_Unreadable : Raz P w K mg base "Unreadable" (C_Unreadable K) "what" := razM F_AlikeError___init__ sc_AlikeError___init__ nb.x_Unreadable nb.g_Unreadable (fun _ _ _ _ _ _ _ us its hu hi => match us, its, hu, hi with | [_, _], [_], _, _ => ⟨_, rfl, rfl⟩) (fun _ _ _ _ _ _ => pss_one (ps_ost (pv 0) (pv 1)))
  have z_AlikeError : Raz P w K mg base "AlikeError" (C_AlikeError K) "what" := razM F_AlikeError___init__ sc_AlikeError___init__ nb.x_AlikeError nb.g_AlikeError (fun _ _ _ _ _ _ _ us its hu hi => match us, its, hu, hi with | [_, _], [_], _, _ => ⟨_, rfl, rfl⟩) (fun _ _ _ _ _ _ => pss_one (ps_ost (pv 0) (pv 1)))
  have z_Unwritable : Raz P w K mg base "Unwritable" (C_Unwritable K) "what" := razM F_AlikeError___init__ sc_AlikeError___init__ nb.x_Unwritable nb.g_Unwritable (fun _ _ _ _ _ _ _ us its hu hi => match us, its, hu, hi with | [_, _], [_], _, _ => ⟨_, rfl, rfl⟩) (fun _ _ _ _ _ _ => pss_one (ps_ost (pv 0) (pv 1)))
  have k_Nest := ok_Nest___init__ (P := P) (w := w) (base := base) F_Nest___init__ nb
  have k_BencodeScanner := ok_BencodeScanner___init__ (P := P) (w := w) (base := base) F_BencodeScanner___init__ nb k_Nest
  have c_is_digit := ok_is_digit (P := P) (w := w) (base := base) F_is_digit m_is_digit nb
  have m_Counted__take_in_count := ok_Counted__take_in_count (P := P) (w := w) (base := base) F_Counted__take_in_count nb c_is_digit
  have m_Counted_take := ok_Counted_take (P := P) (w := w) (base := base) F_Counted_take nb m_Counted__take_in_count
  have c_normal := ok_normal (P := P) (w := w) (base := base) F_normal m_normal nb
  have m_Numeral_pair := ok_Numeral_pair (P := P) (w := w) (base := base) F_Numeral_pair nb c_normal
  have m_Numeral_negate := ok_Numeral_negate (P := P) (w := w) (base := base) F_Numeral_negate nb
  have m_BencodeNumber__take_minus := ok_BencodeNumber__take_minus (P := P) (w := w) (base := base) F_BencodeNumber__take_minus nb m_Numeral_negate
  have m_Numeral_add_digit := ok_Numeral_add_digit (P := P) (w := w) (base := base) F_Numeral_add_digit nb
  have m_BencodeNumber__take_digit := ok_BencodeNumber__take_digit (P := P) (w := w) (base := base) F_BencodeNumber__take_digit nb m_Numeral_add_digit
  have m_BencodeNumber_take := ok_BencodeNumber_take (P := P) (w := w) (base := base) F_BencodeNumber_take nb c_is_digit m_Numeral_pair m_BencodeNumber__take_minus m_BencodeNumber__take_digit
  have p_Utf8_is_open := ok_Utf8_is_open (P := P) (w := w) (base := base) F_Utf8_is_open nb
  have m_Utf8__begin := ok_Utf8__begin (P := P) (w := w) (base := base) F_Utf8__begin nb
  have m_Utf8__go_on := ok_Utf8__go_on (P := P) (w := w) (base := base) F_Utf8__go_on nb
  have m_Utf8_take := ok_Utf8_take (P := P) (w := w) (base := base) F_Utf8_take nb m_Utf8__begin m_Utf8__go_on
  have m_BencodeKey_take := ok_BencodeKey_take (P := P) (w := w) (base := base) F_BencodeKey_take nb m_Counted_take p_Utf8_is_open m_Utf8_take
  have m_Counted_leaf := ok_Counted_leaf (P := P) (w := w) (base := base) F_Counted_leaf nb
  have m_BencodeNumber_leaf := ok_BencodeNumber_leaf (P := P) (w := w) (base := base) F_BencodeNumber_leaf nb m_Numeral_pair
  have m_BencodeKey_leaf := ok_BencodeKey_leaf (P := P) (w := w) (base := base) F_BencodeKey_leaf nb
  have m_Nest_note_key := ok_Nest_note_key (P := P) (w := w) (base := base) F_Nest_note_key nb
  have m_Nest_inner := ok_Nest_inner (P := P) (w := w) (base := base) F_Nest_inner nb
  have m_BencodeScanner__end_value := ok_BencodeScanner__end_value (P := P) (w := w) (base := base) F_BencodeScanner__end_value nb m_Nest_inner
  have m_BencodeScanner__end_token := ok_BencodeScanner__end_token (P := P) (w := w) (base := base) F_BencodeScanner__end_token nb m_Counted_leaf m_BencodeNumber_leaf m_BencodeKey_leaf m_Nest_note_key m_BencodeScanner__end_value
  have k_Counted := ok_Counted___init__ (P := P) (w := w) (base := base) F_Counted___init__ nb
  have k_Numeral := ok_Numeral___init__ (P := P) (w := w) (base := base) F_Numeral___init__ nb
  have k_BencodeNumber := ok_BencodeNumber___init__ (P := P) (w := w) (base := base) F_BencodeNumber___init__ nb k_Numeral
  have k_Utf8 := ok_Utf8___init__ (P := P) (w := w) (base := base) F_Utf8___init__ nb
  have k_BencodeKey := ok_BencodeKey___init__ (P := P) (w := w) (base := base) F_BencodeKey___init__ nb k_Counted k_Utf8
  have m_BencodeScanner__begin_counted := ok_BencodeScanner__begin_counted (P := P) (w := w) (base := base) F_BencodeScanner__begin_counted nb m_Counted_take m_BencodeKey_take
  have m_Nest_grow := ok_Nest_grow (P := P) (w := w) (base := base) F_Nest_grow nb
  have m_BencodeScanner__grow := ok_BencodeScanner__grow (P := P) (w := w) (base := base) F_BencodeScanner__grow nb m_Nest_grow
  have m_Nest_shrink := ok_Nest_shrink (P := P) (w := w) (base := base) F_Nest_shrink nb
  have m_BencodeScanner__close := ok_BencodeScanner__close (P := P) (w := w) (base := base) F_BencodeScanner__close nb m_Nest_inner m_Nest_shrink m_BencodeScanner__end_value
  have m_BencodeScanner__take_mark := ok_BencodeScanner__take_mark (P := P) (w := w) (base := base) F_BencodeScanner__take_mark nb k_Counted k_BencodeNumber k_BencodeKey m_BencodeScanner__begin_counted m_BencodeScanner__grow m_BencodeScanner__close
  have m_BencodeScanner__take := ok_BencodeScanner__take (P := P) (w := w) (base := base) F_BencodeScanner__take nb m_Counted_take m_BencodeNumber_take m_BencodeKey_take m_BencodeScanner__end_token m_BencodeScanner__take_mark
  have m_BencodeScanner_step := ok_BencodeScanner_step (P := P) (w := w) (base := base) F_BencodeScanner_step nb z_Unreadable m_BencodeScanner__take
  have m_BencodeScanner_end := ok_BencodeScanner_end (P := P) (w := w) (base := base) F_BencodeScanner_end nb z_Unreadable
  have k_Builder := ok_Builder___init__ (P := P) (w := w) (base := base) F_Builder___init__ nb
  have k_Frame := ok_Frame___init__ (P := P) (w := w) (base := base) F_Frame___init__ nb
  have c_list_of := ok_list_of (P := P) (w := w) (base := base) F_list_of m_list_of nb
  have c_map_of := ok_map_of (P := P) (w := w) (base := base) F_map_of m_map_of nb
  have m_Frame_built := ok_Frame_built (P := P) (w := w) (base := base) F_Frame_built nb c_list_of c_map_of
  have m_Frame_put := ok_Frame_put (P := P) (w := w) (base := base) F_Frame_put nb
  have m_Builder__put := ok_Builder__put (P := P) (w := w) (base := base) F_Builder__put nb m_Frame_put
  have m_Builder_take := ok_Builder_take (P := P) (w := w) (base := base) F_Builder_take nb k_Frame m_Frame_built m_Builder__put
  have c__take_all := ok__take_all (P := P) (w := w) (base := base) F__take_all m__take_all nb m_Builder_take
  have c_value_of_text := ok_value_of_text (P := P) (w := w) (base := base) F_value_of_text m_value_of_text nb m_BencodeScanner_step m_BencodeScanner_end k_Builder c__take_all
  have c_read_bencode := ok_read_bencode (P := P) (w := w) (base := base) F_read_bencode m_read_bencode nb k_BencodeScanner c_value_of_text
  have c__law_told := ok__law_told (P := P) (w := w) (base := base) F__law_told m__law_told nb z_AlikeError c_read_bencode
  have c__law_right := ok__law_right (P := P) (w := w) (base := base) F__law_right m__law_right nb c__law_same c__law_text_read c__law_told
  exact ok_law F_law nb c__law_cell c__law_state c__law_next c__law_value c__law_tall c__law_planted c__law_spoilt c__law_right
end Fa
open PySem PySem.W PySem.Calls PyProof.Rows
theorem PySem.Challenge.cw_formsalike_k38_bencode_refused_holds : PySem.Challenge.rw_formsalike_k38_bencode_refused.Holds := by
  w_on; o_law
  refine HandSHeadRun.head_any (r := OpenLaw.row PySem.Challenge.rw_formsalike_k38_bencode_refused) (q := view (OpenLaw.row PySem.Challenge.rw_formsalike_k38_bencode_refused).prog [81]) (H := Fa.hk) (ob := Fa.ob) (M := 6000) (loose := Fa.loose) (d := HandSHeadRun.topDef (OpenLaw.row PySem.Challenge.rw_formsalike_k38_bencode_refused).prog 81) (kwd := []) Fa.ob_eq
    (by kernel_rfl) (fun s => by kernel_rfl) Fa.run (by kernel_rfl) (by kernel_rfl) (by kernel_rfl) (by rfl) (by first | assumption | decide +kernel) (by decide +kernel) ⟨rfl, rfl, rfl, rfl, rfl, by decide +kernel⟩ ?hw ?hc
  case hw => w_witness2
  case hc =>
    refine L2.walk_ofE (l := PySem.Challenge.rw_formsalike_k38_bencode_refused) (n := 63) (k := 93) (x := "script") (CX := L2.CX0) rfl (by decide) (by kernel_rfl) ⟨rfl, by decide, by decide⟩ ?F (fun _ _ _ _ z => z)
    intro w mg fa h Y G hmg0
    obtain ⟨K, KX, c⟩ := Y
    have hmg : mg ("law" : PySem.Str) = some (.ref fa) := by
      have e : (HandSHeadRun.topDef (OpenLaw.row PySem.Challenge.rw_formsalike_k38_bencode_refused).prog 81).name = ("law" : PySem.Str) := by kernel_rfl
      rw [← e]
      exact hmg0
    obtain ⟨fd, hb, hF⟩ := Fa.facts (P := (PySem.Challenge.rw_formsalike_k38_bencode_refused).prog) (w := w) KX G hmg c
    exact ⟨K, fd, Fa.sp_law K, KX, hb, fun H a ns hl _ hS => ⟨_, rfl, a, ns, rfl, hS, fun _ => rfl⟩, hF⟩
