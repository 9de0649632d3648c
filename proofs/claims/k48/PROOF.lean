import PyProof.Rows.All
import Wide.All
import OpenK.AllK
import Wide.FinOn
import KE.KStateDown
import KE.GoesMore
import KE.GoesEnum
import HandS.Iter
import HandS.TupLe
import HandS.Deep
import KE.KEqSeq
import KE.KEqDeep
import HandS.ForMost
import HandS.Exc
import HandS.More
import HandS.Wide
import HandS.Property
import HandS.WideBits
import HandS.Conv
import HandS.Codes
import HandS.IsInst
import HandS.Flow
import HandS.Defaults
import HandS.EndBits
import HandS.Head0
import HandS.Head1
import HandS.Head2
import KE.KExcIs
import PyProof.Rows.StrIntSpec
import PyProof.FString3
import HandS.FStr
import HandS.CallLocal
import HandS.AnyAll
import HandS.HeadEnd
import HandS.HeadHook1
import HandS.HeadHook2
import HandS.NoneIn
import HandS.TupAny
import HandS.Style
import HandS.SortRule
import HandS.DictTup
import HandS.TupLe
import HandS.Deep
import PySem.Challenge.RW_formsalike_k48_sexp_loose
import HandS.ExcOwn
import HandS.ExcInit
import HandS.ExcField
import HandS.WordsExc
set_option Elab.async false
set_option linter.all false
set_option maxRecDepth 100000
set_option maxHeartbeats 4000000
namespace Fa
open PySem PySem.Spec L2 SX
open PyProof.Rows (envOfC)
open C8 (Cal pe_c Mak pe_mk Met pe_mt pe_mt0 pe_gc tCut pss_cut)
def top (i : Nat) : Stmt := PySem.Challenge.pw_formsalike_k48_sexp_loose.main.body.getD i (.Pass ⟨0, 0, 0, 0⟩)

/-! ### readings, a step each -/
section
variable {σ : St} {H : Hp} {n b c : St → Hp → Prop} {r : VK} {Q : VK} {K : PySem.W.Frag}
theorem r_seq {t u : TS} (h : t ⟨u ⟨n, r, b, c⟩, r, b, c⟩ σ H) : tSeq t u ⟨n, r, b, c⟩ σ H := h
theorem r_asg {te : TE} {g : TG} (h : te σ H fun x H1 => g x σ H1 n) : tAsg te g ⟨n, r, b, c⟩ σ H := h
theorem r_name {i : Nat} {v : V} {R : St → Hp → Prop} (h : R (σ.set i (some v)) H) : gName i v σ H R := h
theorem r_var {i : Nat} {v : V} (e : σ[i]? = some (some v)) (h : Q v H) : tVar i σ H Q := ⟨v, e, h⟩
theorem r_c {v : V} (h : Q v H) : tC v σ H Q := h
theorem r_op {r : R2} {ta tb : TE} (h : ta σ H fun x H1 => tb σ H1 fun y H2 => r x y H2 Q) : tOp r ta tb σ H Q := h
theorem r_un {r : V → Hp → VK → Prop} {ta : TE} (h : ta σ H fun x H1 => r x H1 Q) : tUn r ta σ H Q := h
theorem r_I0 {g : Int → Int → V} {i j : Int} (h : Q (g i j) H) : rI0 g (.int i) (.int j) H Q := ⟨i, j, rfl, rfl, h⟩
theorem r_I {C : Int → Int → Prop} {g : Int → Int → V} {i j : Int} (c : C i j) (h : Q (g i j) H) : rI C g (.int i) (.int j) H Q := ⟨i, j, rfl, rfl, c, h⟩
theorem r_U {g : Int → V} {i : Int} (h : Q (g i) H) : rU g (.int i) H Q := ⟨i, rfl, h⟩
theorem r_eqI {i j : Int} (h : Q (.bl (decide (i = j))) H) : rEq (.int i) (.int j) H Q := by
  have e : decide (V.int i = V.int j) = decide (i = j) := by simp
  exact ⟨rfl, by rw [e]; exact h⟩
theorem r_neI {i j : Int} (h : Q (.bl (!decide (i = j))) H) : rNe (.int i) (.int j) H Q := by
  have e : decide (V.int i = V.int j) = decide (i = j) := by simp
  exact ⟨rfl, by rw [e]; exact h⟩
theorem r_eqS {i j : Str} (h : Q (.bl (decide (i = j))) H) : rEq (.str i) (.str j) H Q := by
  have e : decide (V.str i = V.str j) = decide (i = j) := by simp
  exact ⟨rfl, by rw [e]; exact h⟩
theorem r_neS {i j : Str} (h : Q (.bl (!decide (i = j))) H) : rNe (.str i) (.str j) H Q := by
  have e : decide (V.str i = V.str j) = decide (i = j) := by simp
  exact ⟨rfl, by rw [e]; exact h⟩
theorem r_nil {R : List V → Hp → Prop} (h : R [] H) : tNil σ H R := h
theorem r_cons {te : TE} {t : TA} {R : List V → Hp → Prop} (h : te σ H fun x H1 => t σ H1 fun xs H2 => R (x :: xs) H2) : tCons te t σ H R := h
theorem r_drop {te : TE} (h : te σ H fun _ H1 => n σ H1) : tDrop te ⟨n, r, b, c⟩ σ H := h
theorem r_ret {te : TE} (h : te σ H r) : tRet te ⟨n, r, b, c⟩ σ H := h
theorem r_retN (h : r .non H) : tRetN ⟨n, r, b, c⟩ σ H := h
theorem r_next (h : n σ H) : tNext ⟨n, r, b, c⟩ σ H := h
theorem r_brk (h : b σ H) : tBreak ⟨n, r, b, c⟩ σ H := h
theorem r_if {e : TT} {t u : TS} (h : e σ H fun k H1 => if k = true then t ⟨n, r, b, c⟩ σ H1 else u ⟨n, r, b, c⟩ σ H1) : tIfS e t u ⟨n, r, b, c⟩ σ H := h
theorem r_ifE {c : TT} {ta tb : TE} (h : c σ H fun b H1 => if b = true then ta σ H1 Q else tb σ H1 Q) : tIf c ta tb σ H Q := h
theorem r_test {te : TE} {R : Bool → Hp → Prop} (h : te σ H fun x H' => ∃ k, x = .bl k ∧ R k H') : tTest te σ H R := h
theorem r_B {te : TE} {R : Bool → Hp → Prop} (h : te σ H fun x H' => ∃ k, x = .bl k ∧ R k H') : tB te σ H R := h
theorem r_bl {b : Bool} {R : Bool → Prop} (h : R b) : ∃ k, V.bl b = .bl k ∧ R k := ⟨b, rfl, h⟩
theorem r_and {t u : TT} {R : Bool → Hp → Prop} (h : t σ H fun c H1 => if c = true then u σ H1 R else R false H1) : tAnd t u σ H R := h
theorem r_or {t u : TT} {R : Bool → Hp → Prop} (h : t σ H fun c H1 => if c = true then R true H1 else u σ H1 R) : tOr t u σ H R := h
theorem r_not {t : TT} {R : Bool → Hp → Prop} (h : t σ H fun c H1 => R (!c) H1) : tNot t σ H R := h
theorem r_andV {ta tb : TE} (h : ta σ H fun x H1 => ∃ c, x = .bl c ∧ if c = true then tb σ H1 Q else Q (.bl false) H1) : tAndV ta tb σ H Q := h
theorem r_orV {ta tb : TE} (h : ta σ H fun x H1 => ∃ c, x = .bl c ∧ if c = true then Q (.bl true) H1 else tb σ H1 Q) : tOrV ta tb σ H Q := h
theorem r_notV {ta : TE} (h : ta σ H fun x H1 => ∃ c, x = .bl c ∧ Q (.bl (!c)) H1) : tNotV ta σ H Q := h
theorem r_chain {r r' : R2} {ta tb tc : TE} (h : ta σ H fun x H1 => tb σ H1 fun y H2 => r x y H2 fun z H3 => ∃ k, z = .bl k ∧ (if k = true then tc σ H3 fun w' H4 => r' y w' H4 Q else Q (.bl false) H3)) : tChain r r' ta tb tc σ H Q := h
theorem r_tup {t : TA} (h : t σ H fun xs H1 => xs.length ≤ sizeLine ∧ ∀ p, H1 p = none → Q (.ref p) (upd H1 p (.tup xs))) : tTup t σ H Q := h
theorem r_lst {t : TA} (h : t σ H fun xs H1 => xs.length ≤ sizeLine ∧ ∀ p, H1 p = none → Q (.ref p) (upd H1 p (.lst xs))) : tLst t σ H Q := h
theorem r_call {sp : Sp} {dvs : List V} {E : XK} {t : TA} (h : t σ H fun vs H1 => sp (vs ++ dvs) H1 Q E) : tCall sp dvs E t σ H Q := h
theorem r_CB {r : List V → Hp → VK → Prop} {t : TA} (h : t σ H fun vs H1 => r vs H1 Q) : tCB r t σ H Q := h
theorem r_ixL {p : Addr} {xs : List V} {i : Int} {v : V} (hs : SqL K H p xs) (e : atI xs i = some v) (h : Q v H) : rIxL K (.ref p) (.int i) H Q := ⟨p, xs, i, v, rfl, rfl, hs, e, h⟩
theorem r_ixT {p : Addr} {xs : List V} {i : Int} {v : V} (hs : SqT K H p xs) (e : atI xs i = some v) (h : Q v H) : rIxT K (.ref p) (.int i) H Q := ⟨p, xs, i, v, rfl, rfl, hs, e, h⟩
theorem r_ite {p : Prop} [Decidable p] {A B : Prop} (h1 : p → A) (h2 : ¬ p → B) : if decide p = true then A else B := by
  by_cases c : p
  · rw [if_pos (decide_eq_true c)]
    exact h1 c
  · rw [if_neg (by simp [c])]
    exact h2 c
theorem r_iten {p : Prop} [Decidable p] {A B : Prop} (h1 : ¬ p → A) (h2 : p → B) : if (!decide p) = true then A else B := by
  by_cases c : p
  · rw [if_neg (by simp [c])]
    exact h2 c
  · rw [if_pos (by simp [c])]
    exact h1 c
theorem r_itep {p : Prop} [Decidable p] {A B : Prop} (c : p) (h : A) : if decide p = true then A else B := by
  rw [if_pos (decide_eq_true c)]
  exact h
theorem r_iteN {p : Prop} [Decidable p] {A B : Prop} (c : ¬ p) (h : B) : if decide p = true then A else B := by
  rw [if_neg (by simp [c])]
  exact h
theorem r_iteF {A B : Prop} (h : B) : if false = true then A else B := by
  rw [if_neg Bool.false_ne_true]
  exact h
theorem r_iteT {A B : Prop} (h : A) : if true = true then A else B := by
  rw [if_pos rfl]
  exact h
theorem r_iteNT {A B : Prop} (h : B) : if (!true) = true then A else B := by
  rw [if_neg (by decide)]
  exact h
theorem r_iteNF {A B : Prop} (h : A) : if (!false) = true then A else B := by
  rw [if_pos (by decide)]
  exact h
theorem r_no {p : Prop} [Decidable p] {A B : Prop} (c : p) (h : B) : if (!decide p) = true then A else B := by
  rw [if_neg (by simp [c])]
  exact h
/-- a for over a written range(m) -/
theorem r_forN {v : Int} {g : TG} {tb : TS} (m : Nat) (e : v = (m : Int)) (hn : m < 2 ^ 62) (Pv : Nat → St → Hp → Prop) (h0 : Pv 0 σ H)
    (hs : ∀ (i : Nat) σ H, i < m → Pv i σ H → g (.int (i : Int)) σ H fun σ2 H2 => tb ⟨Pv (i + 1), r, n, Pv (i + 1)⟩ σ2 H2) (hd : ∀ σ H, Pv m σ H → n σ H) : tFor (iRng1 (tCons (tC (.int v)) tNil)) g tb ⟨n, r, b, c⟩ σ H := by
  subst e
  refine ⟨(m : Int), rfl, by omega, by omega, for_range Pv h0 (fun i σ H hi p => ?_) hd⟩
  rw [Int.zero_add]
  exact hs i σ H (by omega) p
/-- a for over range(v), v in a slot -/
theorem r_forV {v : Int} {k : Nat} {g : TG} {tb : TS} (e : σ[k]? = some (some (.int v))) (h1 : -(2 ^ 62) ≤ v) (h2 : v < 2 ^ 62) (Pv : Nat → St → Hp → Prop) (h0 : Pv 0 σ H)
    (hs : ∀ (i : Nat) σ H, (i : Int) < v → Pv i σ H → g (.int (i : Int)) σ H fun σ2 H2 => tb ⟨Pv (i + 1), r, n, Pv (i + 1)⟩ σ2 H2) (hd : ∀ σ H, Pv v.toNat σ H → n σ H) : tFor (iRng1 (tCons (tVar k) tNil)) g tb ⟨n, r, b, c⟩ σ H := by
  refine ⟨_, e, v, rfl, h1, h2, for_range Pv h0 (fun i σ H hi p => ?_) hd⟩
  rw [Int.zero_add]
  exact hs i σ H (by omega) p
/-- a for over range(e), the turns behind its reading -/
theorem r_for {wi : TI} {g : TG} {tb : TS} (h : wi σ H fun J H1 => ∃ W : Nat → Nat → St → Hp → Prop, (∃ m, W 0 m σ H1) ∧ ∀ i m σ H, W i m σ H →
    (J.stop i H ∧ n σ H) ∨ (J.go i H ∧ ∃ N : St → Hp → Prop, (∀ σ' H', N σ' H' → ∃ m', m' < m ∧ W (i + 1) m' σ' H') ∧ ∀ x H', J.yld i H x H' → g x σ H' fun σ2 H2 => tb ⟨N, r, n, N⟩ σ2 H2)) : tFor wi g tb ⟨n, r, b, c⟩ σ H := h
theorem r_rng1 {ta : TA} {R : It → Hp → Prop} (h : ta σ H fun vs H1 => ∃ j : Int, vs = [.int j] ∧ -(2 ^ 62) ≤ j ∧ j < 2 ^ 62 ∧ R (Itr 0 j.toNat) H1) : iRng1 ta σ H R := h
/-- .. the turns -/
theorem r_turns {j : Int} {g : TG} {tb : TS} (h1 : -(2 ^ 62) ≤ j) (h2 : j < 2 ^ 62) (Pv : Nat → St → Hp → Prop) (h0 : Pv 0 σ H)
    (hs : ∀ (i : Nat) σ H, (i : Int) < j → Pv i σ H → g (.int (i : Int)) σ H fun σ2 H2 => tb ⟨Pv (i + 1), r, n, Pv (i + 1)⟩ σ2 H2) (hd : ∀ σ H, Pv j.toNat σ H → n σ H) :
    -(2 ^ 62) ≤ j ∧ j < 2 ^ 62 ∧ ∃ W : Nat → Nat → St → Hp → Prop, (∃ m, W 0 m σ H) ∧ ∀ i m σ H, W i m σ H →
    ((Itr 0 j.toNat).stop i H ∧ n σ H) ∨ ((Itr 0 j.toNat).go i H ∧ ∃ N : St → Hp → Prop, (∀ σ' H', N σ' H' → ∃ m', m' < m ∧ W (i + 1) m' σ' H') ∧ ∀ x H', (Itr 0 j.toNat).yld i H x H' → g x σ H' fun σ2 H2 => tb ⟨N, r, n, N⟩ σ2 H2) := by
  refine ⟨h1, h2, for_range (D := ⟨n, r, fun _ _ => False, fun _ _ => False⟩) Pv h0 (fun i σ H hi p => ?_) hd⟩
  rw [Int.zero_add]
  exact hs i σ H (by omega) p
theorem r_while {e : TT} {tb : TS} (W : Nat → St → Hp → Prop) (m : Nat) (h0 : W m σ H)
    (hs : ∀ m σ H, W m σ H → e σ H fun k H1 => if k = true then ∃ N : St → Hp → Prop, (∀ σ' H', N σ' H' → ∃ m', m' < m ∧ W m' σ' H') ∧ tb ⟨N, r, n, N⟩ σ H1 else n σ H1) : tWhile e tb ⟨n, r, b, c⟩ σ H := ⟨W, ⟨m, h0⟩, hs⟩
theorem r_turn {tb : TS} {W : Nat → St → Hp → Prop} {m : Nat} (h : tb ⟨fun σ' H' => ∃ m', m' < m ∧ W m' σ' H', r, n, fun σ' H' => ∃ m', m' < m ∧ W m' σ' H'⟩ σ H) :
    ∃ N : St → Hp → Prop, (∀ σ' H', N σ' H' → ∃ m', m' < m ∧ W m' σ' H') ∧ tb ⟨N, r, n, N⟩ σ H := ⟨_, fun _ _ h => h, h⟩
end
/-! ### promises by the number of arguments -/
def sp1 (f : V → Hp → VK → XK → Prop) : Sp := fun vs H Q E => ∃ a, vs = [a] ∧ f a H Q E
def sp2 (f : V → V → Hp → VK → XK → Prop) : Sp := fun vs H Q E => ∃ a b, vs = [a, b] ∧ f a b H Q E
def sp3 (f : V → V → V → Hp → VK → XK → Prop) : Sp := fun vs H Q E => ∃ a b c, vs = [a, b, c] ∧ f a b c H Q E
def sp4 (f : V → V → V → V → Hp → VK → XK → Prop) : Sp := fun vs H Q E => ∃ a b c d, vs = [a, b, c, d] ∧ f a b c d H Q E
def sp5 (f : V → V → V → V → V → Hp → VK → XK → Prop) : Sp := fun vs H Q E => ∃ a b c d e, vs = [a, b, c, d, e] ∧ f a b c d e H Q E
def sp6 (f : V → V → V → V → V → V → Hp → VK → XK → Prop) : Sp := fun vs H Q E => ∃ a b c d e g, vs = [a, b, c, d, e, g] ∧ f a b c d e g H Q E
theorem len5 {f} (vs : List V) (H : Hp) (Q : VK) (E : XK) (h : sp5 f vs H Q E) : vs.length = 5 := by
  obtain ⟨_, _, _, _, _, rfl, _⟩ := h
  rfl
theorem len6 {f} (vs : List V) (H : Hp) (Q : VK) (E : XK) (h : sp6 f vs H Q E) : vs.length = 6 := by
  obtain ⟨_, _, _, _, _, _, rfl, _⟩ := h
  rfl
theorem len1 {f} (vs : List V) (H : Hp) (Q : VK) (E : XK) (h : sp1 f vs H Q E) : vs.length = 1 := by
  obtain ⟨_, rfl, _⟩ := h
  rfl
theorem len2 {f} (vs : List V) (H : Hp) (Q : VK) (E : XK) (h : sp2 f vs H Q E) : vs.length = 2 := by
  obtain ⟨_, _, rfl, _⟩ := h
  rfl
theorem len3 {f} (vs : List V) (H : Hp) (Q : VK) (E : XK) (h : sp3 f vs H Q E) : vs.length = 3 := by
  obtain ⟨_, _, _, rfl, _⟩ := h
  rfl
theorem len4 {f} (vs : List V) (H : Hp) (Q : VK) (E : XK) (h : sp4 f vs H Q E) : vs.length = 4 := by
  obtain ⟨_, _, _, _, rfl, _⟩ := h
  rfl
/-- a def's promise from its body -/
theorem calD {P : Program} {w : World} {K : PySem.W.Frag} {mg : Str → Option Value} {base : Heap} {x qual : Str} {params : Arguments} {body : List Stmt} {scope : Scope} {f : Addr} {fd : FuncData} {N ps : List Str} {k : Nat} {sp : Sp}
    (F : FunD K x qual params body scope [] [] f fd) (m : mg x = some (.ref f)) (S : FnScope N ps scope)
    (hb : ∀ (kV doc pm : Value) (an : Option Addr) (cdv ct : Value) (us : List Value), us.length = ps.length → bindArgs (PySem.W.fnOf x qual params body scope .none kV doc pm an cdv ct) ⟨us, []⟩ = pure (ps.zip us))
    (len : ∀ vs H Q E, sp vs H Q E → vs.length = ps.length)
    (hbody : ∀ (cdv : Value) (A : Around) (outer : List Env) (s : Shared) (H : Hp) (vs : List V) (Q : VK) (E : XK), Room k (A.deeper (envOfC qual scope s.heap.objs.size f cdv)) → sp vs H Q E →
      ∃ t, PSs (cxOf CX0 P w K mg base N qual scope f cdv A outer s H E).nox body t ∧ t { nx := fun _ H' => Q .non H', rt := Q } (start N vs) H) : Cal P w K mg base (k + 1) x sp [] :=
  ⟨f, fd, ps, [], F.ok S len fun cdv A outer s H vs Q E hr h => by
    obtain ⟨t, h1, h2⟩ := hbody cdv A outer s H vs Q E hr h
    exact ⟨t, h1.nox, h2⟩, m, F.kp, F.bindsN hb, .nil⟩
theorem fnD {P : Program} {w : World} {K : PySem.W.Frag} {mg : Str → Option Value} {base : Heap} {x qual : Str} {params : Arguments} {body : List Stmt} {scope : Scope} {f : Addr} {fd : FuncData} {N ps : List Str} {k : Nat} {sp : Sp}
    (F : FunD K x qual params body scope [] [] f fd) (S : FnScope N ps scope) (len : ∀ vs H Q E, sp vs H Q E → vs.length = ps.length)
    (hbody : ∀ (cdv : Value) (A : Around) (outer : List Env) (s : Shared) (H : Hp) (vs : List V) (Q : VK) (E : XK), Room k (A.deeper (envOfC qual scope s.heap.objs.size f cdv)) → sp vs H Q E →
      ∃ t, PSs (cxOf CX0 P w K mg base N qual scope f cdv A outer s H E).nox body t ∧ t { nx := fun _ H' => Q .non H', rt := Q } (start N vs) H) : FnOk P w K mg base CX0 (k + 1) f fd ps sp :=
  F.ok S len fun cdv A outer s H vs Q E hr h => by
    obtain ⟨t, h1, h2⟩ := hbody cdv A outer s H vs Q E hr h
    exact ⟨t, h1.nox, h2⟩
theorem conI {K : PySem.W.Frag} {h : Heap} {mg : Str → Option Value} {x : Str} {i : Int} (X : K.In h) (G : h.Ns mainGlobals mg) (c : (He.Fa.int x i).ok K = true) : ∃ u, mg x = some u ∧ RelV (.int i) u := by
  obtain ⟨t, e⟩ := He.int_ok X G c
  exact ⟨_, e, t, rfl⟩
theorem conS {K : PySem.W.Frag} {h : Heap} {mg : Str → Option Value} {x z : Str} (X : K.In h) (G : h.Ns mainGlobals mg) (c : (He.Fa.str x z).ok K = true) : ∃ u, mg x = some u ∧ RelV (.str z) u := by
  obtain ⟨t, e⟩ := He.str_ok X G c
  exact ⟨_, e, t, rfl⟩

/-! ### more readings -/
section
variable {σ : St} {H : Hp} {n b c : St → Hp → Prop} {r : VK} {Q : VK}
theorem r_cut {t u : TS} (Mid : St → Hp → Prop) (h1 : t ⟨Mid, r, b, c⟩ σ H) (h2 : ∀ σ' H', Mid σ' H' → u ⟨n, r, b, c⟩ σ' H') : tCut t u ⟨n, r, b, c⟩ σ H := ⟨Mid, h1, h2⟩
end
section
variable {σ : St} {H : Hp} {Q : VK} {K : PySem.W.Frag}
theorem r_yes {R : Bool → Hp → Prop} (h : R true H) : tYes σ H R := h
theorem r_isi {x : V} {c d : String} {b : Bool} (t : TyX K H x (.type d)) (e : kitB d c = some b) (h : Q (.bl b) H) : rIsi K [x, .ty c] H Q := ⟨x, .ty c, .type d, .type c, b, rfl, .ty c, t, kit_ty e, h⟩
theorem r_neD {x y : V} {d e : PyData} (h1 : Dp K H x d) (h2 : Dp K H y e) (s1 : SeqAt.shaped d = true) (s2 : SeqAt.shaped e = true) (h : Q (.bl (!PyData.eqv d e)) H) : rNeD K x y H Q := ⟨d, e, h1, h2, s1, s2, h⟩
theorem r_eqD {x y : V} {d e : PyData} (h1 : Dp K H x d) (h2 : Dp K H y e) (s1 : SeqAt.shaped d = true) (s2 : SeqAt.shaped e = true) (h : Q (.bl (PyData.eqv d e)) H) : rEqD K x y H Q := ⟨d, e, h1, h2, s1, s2, h⟩
theorem eqv_same {d : PyData} (s : SeqAt.shaped d = true) : PyData.eqv d d = true := SeqAt.eqv_refl d (Bool.and_eq_true_iff.mp s).1
/-- the same data on both sides -/
theorem r_neDs {x y : V} {d : PyData} (h1 : Dp K H x d) (h2 : Dp K H y d) (s : SeqAt.shaped d = true) (h : Q (.bl false) H) : rNeD K x y H Q := r_neD h1 h2 s s (by rw [eqv_same s]; exact h)
theorem r_eqDs {x y : V} {d : PyData} (h1 : Dp K H x d) (h2 : Dp K H y d) (s : SeqAt.shaped d = true) (h : Q (.bl true) H) : rEqD K x y H Q := r_eqD h1 h2 s s (by rw [eqv_same s]; exact h)
theorem r_rfl {v : V} {B : Prop} (h : B) : v = v ∧ B := ⟨rfl, h⟩
theorem r_gtup {p : Addr} {xs : List V} {n : Nat} {t : TGs} {R : St → Hp → Prop} (hs : SqT K H p xs) (hl : xs.length = n) (h : t xs σ H R) : gTup K n t (.ref p) σ H R := ⟨p, xs, rfl, hs, hl, h⟩
theorem r_gcons {t : TG} {u : TGs} {v : V} {vs : List V} {R : St → Hp → Prop} (h : t v σ H fun σ' H' => u vs σ' H' R) : gCons t u (v :: vs) σ H R := ⟨v, vs, rfl, h⟩
theorem r_gnil {R : St → Hp → Prop} (h : R σ H) : gNil [] σ H R := ⟨rfl, h⟩
theorem r_iteC {p : Prop} [Decidable p] {a b : Int} (h : Q (.int (if p then a else b)) H) : if decide p = true then tC (.int a) σ H Q else tC (.int b) σ H Q := by
  by_cases c : p
  · rw [if_pos (decide_eq_true c)]
    rw [if_pos c] at h
    exact h
  · rw [if_neg (by simp [c])]
    rw [if_neg c] at h
    exact h
theorem r_iteJ {p : Prop} [Decidable p] {ta tb : TE} (v : V) (h1 : p → ∀ R : VK, R v H → ta σ H R) (h2 : ¬ p → ∀ R : VK, R v H → tb σ H R) (h : Q v H) : if decide p = true then ta σ H Q else tb σ H Q := by
  by_cases c : p
  · rw [if_pos (decide_eq_true c)]
    exact h1 c Q h
  · rw [if_neg (by simp [c])]
    exact h2 c Q h
theorem r_max2 {p : Addr} {x y : Int} (hs : H p = some (.lst [.int x, .int y])) (h : Q (.int (max x y)) H) : rMax K [.ref p] H Q := by
  refine ⟨p, [x, y], rfl, SqL.of hs, by show 0 < 2; decide, fun m hm hle => ?_⟩
  have h1 := hle x (by simp)
  have h2 := hle y (by simp)
  have e : m = max x y := by
    rcases List.mem_cons.mp hm with e | e
    · omega
    · rcases List.mem_cons.mp e with e | e
      · omega
      · cases e
  rw [e]
  exact h
theorem r_lam1 {x : V} {R : V → Prop} (h : R x) : ∃ i, [x] = [i] ∧ R i := ⟨x, rfl, h⟩
theorem r_abs {x : Int} {R : Int → Prop} (h : R x) : ∃ i, [V.int x] = [V.int i] ∧ R i := ⟨x, rfl, h⟩
theorem r_int1 {x : Int} {R : Int → Prop} {B : Prop} (h : R x) : (∃ i, [V.int x] = [V.int i] ∧ R i) ∨ B := .inl ⟨x, rfl, h⟩
theorem r_bm {T : String} {r : V → List V → Hp → VK → Prop} {to : TE} {t : TA} (h : to σ H fun x H1 => tyV K T x H1 ∧ t σ H1 fun xs H2 => r x xs H2 Q) : tBM K T r to t σ H Q := h
theorem r_bm0 {T : String} {r : V → List V → Hp → VK → Prop} {to : TE} (h : to σ H fun x H1 => tyV K T x H1 ∧ r x [] H1 Q) : tBM0 K T r to σ H Q := h
theorem tyL {p : Addr} {xs : List V} (h : H p = some (.lst xs)) : tyV K "list" (.ref p) H := Or.inl ⟨rfl, _, SqL.of h⟩
theorem r_app {p : Addr} {xs : List V} {y : V} (h : H p = some (.lst xs)) (hl : xs.length < sizeLine) (q : Q .non (upd H p (.lst (xs ++ [y])))) : rAppend (.ref p) [y] H Q := ⟨p, xs, y, rfl, rfl, h, hl, q⟩
theorem r_sub {to ti : TE} {t : TSet} {v : V} {R : St → Hp → Prop} (h : to σ H fun o H1 => ti σ H1 fun i H2 => t o i v H2 fun H3 => R σ H3) : gSub to ti t v σ H R := h
theorem r_setL {p : Addr} {xs : List V} {k : Int} {j : Nat} {v : V} {R : Hp → Prop} (h : H p = some (.lst xs)) (e : ixN xs.length k = some j) (q : R (upd H p (.lst (xs.set j v)))) : rSetL (.ref p) (.int k) v H R := ⟨p, xs, k, j, rfl, rfl, h, e, q⟩
theorem r_lcR {ta : TA} {g : TG} {tt : TT} {te : TE} {vs : List Nat} (n : Nat) (hn : n < 2 ^ 62)
    (h : ∀ D, H D = none → ∃ W : Nat → Nat → Hp → Prop, (∃ m, W 0 m (upd H D (.lst []))) ∧ ∀ i m H, W i m H →
      ((Itr 0 n).stop i H ∧ Q (.ref D) H) ∨ ((Itr 0 n).go i H ∧ ∃ Nx : Hp → Prop, (∀ H', Nx H' → ∃ m', m' < m ∧ W (i + 1) m' H') ∧ ∀ x H', (Itr 0 n).yld i H x H' → g x (wipe σ vs) H' fun σ2 H2 => wipe σ2 vs = wipe σ vs ∧ tt σ2 H2 fun b H3 =>
        if b = true then te σ2 H3 fun y H4 => ∃ acc, H4 D = some (.lst acc) ∧ acc.length < sizeLine ∧ Nx (upd H4 D (.lst (acc ++ [y]))) else Nx H3))
    (he : ∀ R : List V → Hp → Prop, R [.int (n : Int)] H → ta σ H R) : tLc (iRng1 ta) g tt te vs σ H Q := by
  refine he _ ⟨(n : Int), rfl, by omega, by omega, ?_⟩
  have e : ((n : Int)).toNat = n := by omega
  rw [e]
  exact h
theorem same_upd {H : Hp} {p : Addr} (h : H p = none) (o : HO) : Same H (upd H p o) := fun b u q => by
  rw [upd_ne (ne_of_none q h)]
  exact q
theorem seq_upd {p b : Addr} {xs : List V} {o : HO} (h : SqL K H b xs) (hn : b ≠ p) : SqL K (upd H p o) b xs := by
  rcases h with (h | ⟨u, h⟩) | h
  · exact .inl (.inl ((upd_ne hn).trans h))
  · exact .inl (.inr ⟨u, (upd_ne hn).trans h⟩)
  · exact .inr h
theorem atI_ints {ns : List Int} {k : Int} (h0 : 0 ≤ k) (h1 : k < (ns.length : Int)) : ∃ v, v ∈ ns ∧ atI (ns.map V.int) k = some (.int v) := by
  have hk : k.toNat < ns.length := by omega
  have ek : k = ((k.toNat : Nat) : Int) := by omega
  have q : atI (ns.map V.int) ((k.toNat : Nat) : Int) = some (.int ns[k.toNat]) := atI_nat (by rw [List.getElem?_map, List.getElem?_eq_getElem hk] <;> rfl)
  rw [← ek] at q
  exact ⟨ns[k.toNat], List.getElem_mem hk, q⟩
end

/-! ### what the program's top leaves, looked at: its defs by their addresses, facts, written data; the statics too -/
abbrev Frg := PySem.W.Frag
/-- the getter of a property of a class -/
def prAd (C f : Str) (K : Frg) : Addr := match PySem.W.recIn K (He.ma K (He.ga K C) f) "property" with
  | some (.ref g :: _) => g
  | _ => 0
def glAd (x : Str) (K : Frg) : Addr := He.ga K x
def meAd (C m : Str) (K : Frg) : Addr := He.ma K (He.ga K C) m
structure DefM where
  ad : Frg → Addr
  nm : Str
  ql : Str
  pa : Arguments
  bo : List Stmt
  sc : Scope
  df : List He.Dv := []
def seeM (K : Frg) (d : DefM) : He.FnW := match K.lookup (d.ad K) with
  | some ⟨_, _, .func u, _⟩ => some (u.name, u.qualname, u.params, u.body, u.scope, u.globals, u.closure, u.builtins)
  | _ => none
def dueM (d : DefM) : He.FnW := some (d.nm, d.ql, d.pa, .stmts d.bo, d.sc, mainGlobals, [], builtinsNs)
def okM (K : Frg) (d : DefM) : Bool := PySem.W.keepIn K (.ref (d.ad K)) && (match K.lookup (d.ad K) with
  | some ⟨_, _, .func u, _⟩ => PySem.W.codeIn K u.code d.ql && He.dflB K u.defaults (d.df.map (He.Dv.v K))
  | _ => false)
theorem both {a b : Bool} (h : (a && b) = true) : a = true ∧ b = true := Bool.and_eq_true_iff.mp h
theorem funM {K : Frg} {d : DefM} (e : seeM K d = dueM d) (c : okM K d = true) : ∃ fd, FunD K d.nm d.ql d.pa d.bo d.sc (d.df.map (He.Dv.v K)) [] (d.ad K) fd := by
  have kp := (both c).1
  have c2 := (both c).2
  unfold seeM dueM at e
  split at c2
  · rename_i x1 x2 u x3 hL
    rw [hL] at e
    obtain ⟨n1, n2, n3, n4, n5, n6, n7, n8, n9, n10, n11, n12, n13, n14, n15⟩ := u
    simp only [Option.some.injEq, Prod.mk.injEq] at e
    obtain ⟨h1, h2, h3, h4, h5, h6, h7, h8⟩ := e
    subst h1 h2 h3 h4 h5 h6 h7 h8
    have k := both c2
    exact ⟨_, ⟨x1, x2, n8, n9, n10, n11, n12, n13, n14, x3, rfl, hL, k.1, He.dflB_ok k.2, .inl rfl⟩, kp⟩
  · cases c2
/-- written data: none, truths, integers, texts, lists and tuples of them -/
def datB (K : Frg) : Nat → Value → PyData → Bool
  | 0, _, _ => false
  | n + 1, u, d => match u, d with
    | .none, .none => true
    | .bool b, .bool c => b == c
    | .int i _, .int j => decide (i = j)
    | .str x _, .str y => decide (x = y)
    | .ref a, .tuple ds => (match K.lookup a with
      | some ⟨.type c, _, .seq its _, _⟩ => decide (c = "tuple") && (decide (its.size ≤ sizeLine) && datAll (fun u d => datB K n u d) its.toList ds)
      | _ => false)
    | _, _ => false
where datAll (f : Value → PyData → Bool) : List Value → List PyData → Bool
  | [], [] => true
  | u :: us, d :: ds => f u d && datAll f us ds
  | _, _ => false
theorem datAll_ok {K : Frg} {f : Value → PyData → Bool} (hf : ∀ u d, f u d = true → ∃ x, RelV x u ∧ ∀ H, Dp K H x d) : ∀ (us : List Value) (ds : List PyData), datB.datAll f us ds = true → ∃ xs, Vals xs us ∧ ∀ H, DpAll K H xs ds
  | [], [], _ => ⟨[], .nil, fun _ => .nil⟩
  | u :: us, d :: ds, h => by
    unfold datB.datAll at h
    obtain ⟨x, r, k⟩ := hf u d (both h).1
    obtain ⟨xs, rs, ks⟩ := datAll_ok hf us ds (both h).2
    exact ⟨x :: xs, .cons r rs, fun H => .cons (k H) (ks H)⟩
  | [], _ :: _, h => by cases h
  | _ :: _, [], h => by cases h
theorem datB_ok {K : Frg} : ∀ (n : Nat) (u : Value) (d : PyData), datB K n u d = true → ∃ x, RelV x u ∧ ∀ H, Dp K H x d
  | 0, _, _, h => by cases h
  | n + 1, u, d, h => by
    unfold datB at h
    match u, d, h with
    | .none, .none, _ => exact ⟨.non, rfl, fun _ => .non⟩
    | .bool b, .bool c, h =>
      have e : b = c := eq_of_beq h
      subst e
      exact ⟨.bl b, rfl, fun _ => .bl b⟩
    | .int i t, .int j, h =>
      have e : i = j := of_decide_eq_true h
      subst e
      exact ⟨.int i, ⟨t, rfl⟩, fun _ => .int i⟩
    | .str x t, .str y, h =>
      have e : x = y := of_decide_eq_true h
      subst e
      exact ⟨.str x, ⟨t, rfl⟩, fun _ => .str x⟩
    | .ref a, .tuple ds, h =>
      have h' : (match K.lookup a with
        | some ⟨.type c, _, .seq its _, _⟩ => decide (c = "tuple") && (decide (its.size ≤ sizeLine) && datB.datAll (fun u d => datB K n u d) its.toList ds)
        | _ => false) = true := h
      split at h'
      · rename_i c x2 its m x3 hL
        have h1 := (both h').1
        have h2 := (both (both h').2).1
        obtain ⟨xs, rs, ks⟩ := datAll_ok (datB_ok n) its.toList ds (both (both h').2).2
        exact ⟨.ref a, rfl, fun H => .tup (.inr ⟨_, its, m, hL, congrArg Value.type (of_decide_eq_true h1), rfl, of_decide_eq_true h2, rs⟩) (ks H)⟩
      · cases h'
/-- a name of the module that stands for such data -/
def conB (K : Frg) (x : Str) (d : PyData) : Bool := match PySem.W.nsIn K mainGlobals x with
  | some (some u) => datB K 8 u d
  | _ => false
theorem conM {K : Frg} {h : Heap} {mg : Str → Option Value} {x : Str} {d : PyData} (X : K.In h) (G : h.Ns mainGlobals mg) (c : conB K x d = true) : ∃ v u, mg x = some u ∧ RelV v u ∧ ∀ H, Dp K H v d := by
  unfold conB at c
  split at c
  · rename_i u hL
    obtain ⟨v, r, k⟩ := datB_ok 8 u d c
    exact ⟨v, u, PySem.W.mg_of X G hL, r, k⟩
  · cases c
/-- a property of a class -/
def prB (K : Frg) (C f : Str) : Bool := He.eqO (PySem.W.findIn K (.ref (He.ga K C)) f) (some (some (.ref (He.ma K (He.ga K C) f)))) &&
  (He.eqO (PySem.W.specialIn K (.ref (He.ma K (He.ga K C) f)) "__get__") (some (some (.builtin "property.__get__"))) && (decide (PySem.W.takesIn K (.ref (He.ma K (He.ga K C) f)) = some true) &&
  (match PySem.W.recIn K (He.ma K (He.ga K C) f) "property" with
    | some (.ref _ :: _) => true
    | _ => false)))
theorem prM {K : Frg} {C f : Str} (h : prB K C f = true) : PropOf K (He.ga K C) f (He.ma K (He.ga K C) f) (prAd C f K) := by
  obtain ⟨h1, h⟩ := both h
  obtain ⟨h2, h⟩ := both h
  obtain ⟨h3, h4⟩ := both h
  refine ⟨He.eqO_ok h1, He.eqO_ok h2, of_decide_eq_true h3, ?_⟩
  unfold prAd
  split at h4
  · rename_i g r hL
    rw [hL]
    exact ⟨r, rfl⟩
  · cases h4
/-- no limit of digits is set -/
def digB (K : Frg) : Bool := PySem.W.nsOkIn K cStatics && He.eqO (PySem.W.nsIn K cStatics "sys.int_max_str_digits") (some none)
def DigK (K : Frg) : Prop := PySem.W.nsOkIn K cStatics = true ∧ PySem.W.nsIn K cStatics "sys.int_max_str_digits" = some none
theorem digK_ok {K : Frg} (h : digB K = true) : DigK K := ⟨(both h).1, He.eqO_ok (both h).2⟩
/-! the Hook -/
abbrev AlM : Type := Bool × List He.FnW
def frM (n : Nat) (g : Addr → Option Obj) : Frg := He.frG g (cStatics :: He.asD g n)
def obsM (fa : List He.Fa) (ex : Frg → Bool) (fn : List DefM) (K : Frg) : AlM := ((fa.all fun x => x.ok K) && (ex K && fn.all fun d => okM K d), fn.map fun d => seeM K d)
def valM (fn : List DefM) : AlM := (true, fn.map dueM)
def SaysM (fa : List He.Fa) (ex : Frg → Bool) (fn : List DefM) (K : Frg) : Prop := obsM fa ex fn K = valM fn
def hookM (n : Nat) (fa : List He.Fa) (ex : Frg → Bool) (fn : List DefM) : PySem.W.Hook where
  α := AlM
  obs := fun s => obsM fa ex fn (frM n s.heap.get?)
  val := fun _ => valM fn
  says := fun _ h => ∃ K : Frg, K.In h ∧ SaysM fa ex fn K
  of := fun _ _ e => ⟨_, He.frG_in, e⟩
  keeps := fun _ _ _ ⟨K, hK, c⟩ k => ⟨K, PySem.W.Frag.In.keeps hK k, c⟩
theorem obsM_eq {n : Nat} {fa : List He.Fa} {ex : Frg → Bool} {fn : List DefM} {g : Addr → Option Obj} {s : Shared} (h : ∀ a, g a = s.heap.get? a) : obsM fa ex fn (frM n g) = (hookM n fa ex fn).obs s := by
  have e : g = s.heap.get? := funext h
  subst e
  rfl
section
variable {fa : List He.Fa} {ex : Frg → Bool} {fn : List DefM} {K : Frg}
theorem SaysM.fact (c : SaysM fa ex fn K) (i : Nat) {x : He.Fa} (h : fa[i]? = some x) : x.ok K = true :=
  List.all_eq_true.mp (both (congrArg Prod.fst c : ((fa.all fun x => x.ok K) && (ex K && fn.all fun d => okM K d)) = true)).1 x (List.mem_of_getElem? h)
theorem SaysM.more (c : SaysM fa ex fn K) : ex K = true := (both (both (congrArg Prod.fst c : ((fa.all fun x => x.ok K) && (ex K && fn.all fun d => okM K d)) = true)).2).1
theorem SaysM.def_ (c : SaysM fa ex fn K) (i : Nat) {d : DefM} (h : fn[i]? = some d) : ∃ fd, FunD K d.nm d.ql d.pa d.bo d.sc (d.df.map (He.Dv.v K)) [] (d.ad K) fd := by
  have c2 := (both (both (congrArg Prod.fst c : ((fa.all fun x => x.ok K) && (ex K && fn.all fun d => okM K d)) = true)).2).2
  have e2 : (fn.map fun d => seeM K d)[i]? = (fn.map dueM)[i]? := congrArg (fun z : AlM => z.2[i]?) c
  simp only [List.getElem?_map, h, Option.map_some, Option.some.injEq] at e2
  exact funM e2 (List.all_eq_true.mp c2 d (List.mem_of_getElem? h))
end

/-! ### a dict that the module's top writes: keys integers and texts -/
section
open PySem PySem.Spec PyProof.Rows L2
def TabAt (K : PySem.W.Frag) (w : World) (a : Addr) (kvs : List (Key × V)) : Prop := (a == sysModules) = false ∧ ∃ vs : List (Key × Value), KV kvs vs ∧ ∀ (P : Program) (h : Heap), K.In h → h.DictOf (mixKind P w) a vs
def tKGet (K : PySem.W.Frag) (w : World) (td ty tx : TE) : TE := fun σ H Q => td σ H fun x H1 => ∃ a kvs, x = .ref a ∧ TabAt K w a kvs ∧ ty σ H1 fun y H2 => tx σ H2 fun z H3 => ∃ k, y = kV k ∧ Q ((valV kvs k).getD z) H3
def tKIx (K : PySem.W.Frag) (w : World) (td ty : TE) : TE := fun σ H Q => td σ H fun x H1 => ty σ H1 fun y H2 => ∃ a kvs k v, x = .ref a ∧ TabAt K w a kvs ∧ y = kV k ∧ valV kvs k = some v ∧ Q v H2
def tKIn (K : PySem.W.Frag) (w : World) (ty td : TE) : TE := fun σ H Q => ty σ H fun y H1 => td σ H1 fun x H2 => ∃ a kvs k, x = .ref a ∧ TabAt K w a kvs ∧ y = kV k ∧ Q (.bl (valV kvs k).isSome) H2
section
variable {X : Cx} {o e f : Expr} {apos cpos : Pos} {td ty tx : TE}
theorem dictOf_free {P : Program} {w : World} {h : Heap} {a : Addr} {vs : List (Key × Value)} (d : h.DictOf (mixKind P w) a vs) : ∃ ob, h.get? a = some ob ∧ ob.dict = none := by
  obtain ⟨ob, _, _, h1, h2, _⟩ := d
  exact ⟨ob, h1, h2.2.1⟩
theorem pe_kget2 (ho : PE X o td) (he : PE X e ty) (hf : PE X f tx) (m : M2 X o "get" apos e f cpos) : PE X (.Call (.Attribute o "get" apos) [e, f] [] cpos) (tKGet X.K X.w td ty tx) := by
  refine ⟨fun pins s σ H Q I h => ?_⟩
  refine wpAny_Call_method m.base m.few m.line PySem.F.plainAttrs_dict PySem.F.slot_dict_get PySem.F.type_dict_get (thn (ho.run pins s σ H _ I h) fun u s1 ⟨x, H1, I1, rx, a, kvs, ex, ⟨hd, vs, rel, dd⟩, q1⟩ => ?_)
  subst ex
  obtain rfl : u = Value.ref a := rx
  have d1 := dd X.prog s1.heap I1.kIn
  refine ⟨d1.typeIs, fun b q => ?_, ?_⟩
  · cases q
    exact dictOf_free d1
  rw [m.trees]
  refine Calls.callWith_builtin rfl (Calls.evalArgs_plain (Calls.spliced_cons (thn (he.run pins s1 σ H1 _ I1 q1) fun iv s2 ⟨y, H2, I2, ry, q2⟩ =>
    Calls.spliced_cons (thn (hf.run pins s2 σ H2 _ I2 q2) fun fv s3 ⟨z, H3, I3, rz, k, ey, q3⟩ => Calls.spliced_nil ?_))))
  subst ey
  have d3 := dd X.prog s3.heap I3.kIn
  refine call_meetsIn PySem.F.slot_dict_get d3.typeIs PySem.F.entry_dict_get (PySem.F.args_dict_get_3 _ _ _) (meets_dict_get_default (mixKind X.prog X.w) a (kV_is ry) hd fv) ⟨_, d3.mapOf, ⟨_, H3, I3.tok _, ?_, q3⟩⟩
  exact (rel.val k).getD rz
theorem pe_kix (ho : PE X o td) (hi : PE X e ty) (hs : NoSl e) : PE X (.Subscript o e cpos) (tKIx X.K X.w td ty) := by
  refine ⟨fun pins s σ H Q I h => ?_⟩
  refine subD_of PySem.F.slot_dict_getitem.lookup hs (thn (ho.run pins s σ H _ I h) fun u s1 ⟨x, H1, I1, rx, q1⟩ => thn (hi.run pins s1 σ H1 _ I1 q1) fun iv s2 ⟨y, H2, I2, ry, a, kvs, k, v, ex, ⟨hd, vs, rel, dd⟩, ey, l, q2⟩ => ?_)
  subst ex
  subst ey
  obtain rfl : u = Value.ref a := rx
  have d2 := dd X.prog s2.heap I2.kIn
  obtain ⟨w', hw, rw'⟩ := RelO.some_of (v := v) (o := valueAt vs k) (by rw [← l]; exact rel.val k)
  exact ⟨d2.typeIs, wpAny_getItem_of (kV_is ry) d2.mapOf hw ⟨v, H2, I2.tok _, rw', q2⟩⟩
theorem pc_kin (hi : PE X e ty) (ho : PE X o td) : PC X .In e o (tKIn X.K X.w ty td) := by
  refine ⟨fun pins s σ H Q I h => ?_⟩
  refine thn (hi.run pins s σ H _ I h) fun iv s1 ⟨y, H1, I1, ry, q1⟩ => thn (ho.run pins s1 σ H1 _ I1 q1) fun u s2 ⟨x, H2, I2, rx, a, kvs, k, ex, ⟨hd, vs, rel, dd⟩, ey, q2⟩ => ?_
  subst ex
  subst ey
  obtain rfl : u = Value.ref a := rx
  have d2 := dd X.prog s2.heap I2.kIn
  refine wpAny_in_of (kV_is ry) hd d2.mapOf ?_
  rw [← (rel.val k).isSome_eq]
  exact ⟨.bl _, H2, I2.tok _, rfl, q2⟩
end
/-! .. keys tuples of integers and texts -/
def KTk : List (List Key × V) → List (List Key × Addr × Value) → Prop := Paired fun (p : List Key × V) (q : List Key × Addr × Value) => p.1 = q.1 ∧ RelV p.2 q.2.2
theorem KTk.val {kvs : List (List Key × V)} {xs : List (List Key × Addr × Value)} (r : KTk kvs xs) (k : List Key) : RelO (valV kvs k) ((atKey xs k).map (·.2)) := by
  induction r with
  | nil => exact True.intro
  | @cons p q ps qs h t ih =>
    obtain ⟨h1, h2⟩ := h
    by_cases e : p.1 = k
    · have e' : q.1 = k := h1.symm.trans e
      have b : atKey (q :: qs) k = some q.2 := by simp [atKey, List.find?_cons, e']
      rw [valV_pos e, b]; exact h2
    · have e' : ¬ q.1 = k := fun z => e (h1.trans z)
      have b : atKey (q :: qs) k = atKey qs k := by simp [atKey, List.find?_cons, e']
      rw [valV_neg e, b]; exact ih
def TabTAt (K : PySem.W.Frag) (w : World) (a : Addr) (kvs : List (List Key × V)) : Prop := (a == sysModules) = false ∧ ∃ xs : List (List Key × Addr × Value), KTk kvs xs ∧ ∀ (P : Program) (h : Heap), K.In h → h.DictOfH (tupleKind (mixKind P w)) a xs
def tKGetT (K : PySem.W.Frag) (w : World) (td ty tx : TE) : TE := fun σ H Q => td σ H fun x H1 => ∃ a kvs, x = .ref a ∧ TabTAt K w a kvs ∧ ty σ H1 fun y H2 => tx σ H2 fun z H3 => ∃ b ks, y = .ref b ∧ H3 b = some (.tup (ks.map kV)) ∧ Q ((valV kvs ks).getD z) H3
section
variable {X : Cx} {o e f : Expr} {apos cpos : Pos} {td ty tx : TE}
theorem pe_kget2T (hu : X.A.units + 1 < cLine) (ho : PE X o td) (he : PE X e ty) (hf : PE X f tx) (m : M2 X o "get" apos e f cpos) : PE X (.Call (.Attribute o "get" apos) [e, f] [] cpos) (tKGetT X.K X.w td ty tx) := by
  refine ⟨fun pins s σ H Q I h => ?_⟩
  refine wpAny_Call_method m.base m.few m.line PySem.F.plainAttrs_dict PySem.F.slot_dict_get PySem.F.type_dict_get (thn (ho.run pins s σ H _ I h) fun u s1 ⟨x, H1, I1, rx, a, kvs, ex, ⟨hd, xs, rel, dd⟩, q1⟩ => ?_)
  subst ex
  obtain rfl : u = Value.ref a := rx
  have d1 := dd X.prog s1.heap I1.kIn
  refine ⟨d1.typeIs, fun b q => ?_, ?_⟩
  · cases q
    obtain ⟨ob, _, _, h1, h2, _⟩ := d1
    exact ⟨ob, h1, h2.2.1⟩
  rw [m.trees]
  refine Calls.callWith_builtin rfl (Calls.evalArgs_plain (Calls.spliced_cons (thn (he.run pins s1 σ H1 _ I1 q1) fun iv s2 ⟨y, H2, I2, ry, q2⟩ =>
    Calls.spliced_cons (thn (hf.run pins s2 σ H2 _ I2 q2) fun fv s3 ⟨z, H3, I3, rz, b, ks, ey, eb, q3⟩ => Calls.spliced_nil ?_))))
  subst ey
  obtain rfl : iv = Value.ref b := ry
  have d3 := dd X.prog s3.heap I3.kIn
  refine call_meetsIn PySem.F.slot_dict_get d3.typeIs PySem.F.entry_dict_get (PySem.F.args_dict_get_3 _ _ _) (meetsH_dict_get_default (tupleKind (mixKind X.prog X.w)) a b hd fv) ⟨tupleKind_room_in1 hu, ks, xs, key_of I3.hok eb, d3, ⟨_, H3, I3.tok _, ?_, q3⟩⟩
  exact (rel.val ks).getD rz
end
end
section
open PySem PySem.Spec PyProof.Rows L2
abbrev KeyX : Type := Sum Key (List Key)
def hashX (w : World) : KeyX → Int
  | .inl k => keyH w k
  | .inr ks => reduceHash (Builtin.Tuple.tupleHashOf (ks.map (keyH w)))
def keyV : Value → Option Key
  | .str x _ => some (.inr x)
  | .int i _ => some (.inl i)
  | _ => none
def keyL : List Value → Option (List Key)
  | [] => some []
  | v :: r => match keyV v, keyL r with
    | some k, some ks => some (k :: ks)
    | _, _ => none
def keyX (K : PySem.W.Frag) : Value → Option KeyX
  | .ref b => (match K.lookup b with
    | some ⟨.type c, _, .seq its _, _⟩ => (match decide (c = "tuple") with
      | true => (match keyL its.toList with
        | some ks => some (.inr ks)
        | none => none)
      | false => none)
    | _ => none)
  | v => (match keyV v with
    | some k => some (.inl k)
    | none => none)
def tabE (K : PySem.W.Frag) (e : DictEntry) : Option (KeyX × Int) := match keyX K e.key with
  | some k => some (k, e.hash)
  | none => none
def tabW (K : PySem.W.Frag) (a : Addr) : Option (List (Option (KeyX × Int))) := match K.lookup a with
  | some ⟨.type c, none, .dict es _, sl⟩ => (match decide (c = "dict") && (sl.isEmpty && !(a == sysModules)) with
    | true => some (es.toList.map (tabE K))
    | false => none)
  | _ => none
def keysX (w : World) (ks : List KeyX) : List (Option (KeyX × Int)) := ks.map fun k => some (k, hashX w k)
def relAllB : List V → List Value → Bool
  | [], [] => true
  | x :: xs, u :: us => He.relB x u && relAllB xs us
  | _, _ => false
def tabV (K : PySem.W.Frag) (a : Addr) (xs : List V) : Bool := match K.lookup a with
  | some ⟨_, _, .dict es _, _⟩ => relAllB xs (es.toList.map (·.val))
  | _ => false
theorem tabW_obj {K : PySem.W.Frag} {a : Addr} {l : List (Option (KeyX × Int))} (h : tabW K a = some l) : ∃ es n, K.lookup a = some ⟨.type "dict", none, .dict es n, #[]⟩ ∧ es.toList.map (tabE K) = l ∧ (a == sysModules) = false := by
  unfold tabW at h
  cases q : K.lookup a with
  | none =>
    rw [q] at h
    cases h
  | some o =>
    obtain ⟨oc, od, dt, osl⟩ := o
    rw [q] at h
    cases oc with
    | type c =>
      cases od with
      | none =>
        cases dt with
        | dict es n =>
          have h1 : (match decide (c = "dict") && (osl.isEmpty && !(a == sysModules)) with
            | true => some (es.toList.map (tabE K))
            | false => none) = some l := h
          cases z : decide (c = "dict") && (osl.isEmpty && !(a == sysModules)) with
          | false =>
            rw [z] at h1
            cases h1
          | true =>
            rw [z] at h1
            obtain ⟨z1, z2⟩ := both z
            obtain ⟨z3, z4⟩ := both z2
            have e1 : c = "dict" := of_decide_eq_true z1
            have e2 : osl = #[] := Array.isEmpty_iff.mp z3
            have e3 : (a == sysModules) = false := by
              cases y : a == sysModules with
              | false => rfl
              | true =>
                rw [y] at z4
                cases z4
            subst e1 e2
            exact ⟨es, n, rfl, Option.some.inj h1, e3⟩
        | _ => cases h
      | some b => cases dt <;> cases h
    | _ => cases od <;> cases dt <;> cases h
theorem keyV_is {v : Value} {k : Key} (h : keyV v = some k) : keyIs k v = true := by
  unfold keyV at h
  split at h
  · cases h
    exact keyIs_str _ _
  · cases h
    exact keyIs_int _ _
  · cases h
theorem keyX_inl {K : PySem.W.Frag} {v : Value} {k : Key} (h : keyX K v = some (.inl k)) : keyIs k v = true := by
  unfold keyX at h
  split at h
  · split at h
    · split at h
      · split at h <;> cases h
      · cases h
    · cases h
  · split at h
    · rename_i k0 q
      cases h
      exact keyV_is q
    · cases h
theorem keyX_inr {K : PySem.W.Frag} {v : Value} {ks : List Key} (h : keyX K v = some (.inr ks)) : ∃ (b : Addr) (o : Obj) (its : Array Value) (n : Nat), v = .ref b ∧ K.lookup b = some o ∧ o.cls = .type "tuple" ∧ o.data = .seq its n ∧ keyL its.toList = some ks := by
  unfold keyX at h
  split at h
  · rename_i b
    split at h
    · rename_i c d its n sl hL
      split at h
      · rename_i hc
        split at h
        · rename_i ks0 q
          cases h
          have hc : c = "tuple" := of_decide_eq_true hc
          subst hc
          exact ⟨_, _, its, n, rfl, hL, rfl, rfl, q⟩
        · cases h
      · cases h
    · cases h
  · split at h <;> cases h
theorem tabE_of {K : PySem.W.Frag} {e : DictEntry} {k : KeyX} {z : Int} (h : tabE K e = some (k, z)) : keyX K e.key = some k ∧ e.hash = z := by
  unfold tabE at h
  split at h
  · rename_i k0 q
    have h1 := Option.some.inj h
    obtain ⟨h2, h3⟩ := Prod.mk.inj h1
    exact ⟨by rw [q, h2], h3⟩
  · cases h
theorem kv_zip : ∀ (xs : List V) (us : List Value), relAllB xs us = true → ∀ {κ : Type} (ks : List κ), KV (ks.zip xs) (ks.zip us)
  | [], [], _, _, ks => by
    cases ks <;> exact .nil
  | x :: xs, u :: us, h, _, [] => .nil
  | x :: xs, u :: us, h, _, k :: ks => .cons ⟨rfl, He.relB_ok (both h).1⟩ (kv_zip xs us (both h).2 ks)
  | [], _ :: _, h, _, _ => by cases h
  | _ :: _, [], h, _, _ => by cases h
theorem tab_pairs {P : Program} {w : World} {K : PySem.W.Frag} : ∀ (l : List DictEntry) (ks : List Key), l.map (tabE K) = keysX w (ks.map .inl) →
    Pairs (mixKind P w) l (ks.zip (l.map (·.val))) ∧ (∀ e ∈ l, ∃ k, (mixKind P w).is k e.key = true ∧ e.hash = (mixKind P w).hash k) ∧ l.length = ks.length
  | [], [], _ => ⟨.nil, fun _ h => absurd h (by simp), rfl⟩
  | [], _ :: _, h => by cases h
  | _ :: _, [], h => by cases h
  | e :: l, k :: ks, h => by
    have h1 : tabE K e :: l.map (tabE K) = some (.inl k, hashX w (.inl k)) :: keysX w (ks.map .inl) := h
    injection h1 with h2 h3
    obtain ⟨a1, a2⟩ := tabE_of h2
    have a1 := keyX_inl a1
    obtain ⟨p1, p2, p3⟩ := tab_pairs (P := P) l ks h3
    refine ⟨.cons a1 rfl p1, fun x hx => ?_, congrArg (· + 1) p3⟩
    rcases List.mem_cons.mp hx with q | q
    · rw [q]
      exact ⟨k, a1, a2⟩
    · exact p2 x q
theorem fst_zip {α β : Type} : ∀ (ks : List α) (us : List β), us.length = ks.length → (ks.zip us).map (·.1) = ks
  | [], _, _ => by simp
  | k :: ks, [], h => by cases h
  | k :: ks, u :: us, h => by
    show k :: (ks.zip us).map (·.1) = k :: ks
    rw [fst_zip ks us (Nat.succ.inj h)]
theorem tab_ok {w : World} {K : PySem.W.Frag} {a : Addr} {ks : List Key} {xs : List V} (h : tabW K a = some (keysX w (ks.map .inl))) (hv : tabV K a xs = true) (nd : ks.Nodup) : TabAt K w a (ks.zip xs) := by
  obtain ⟨es, n, hK, he, hs⟩ := tabW_obj h
  unfold tabV at hv
  rw [hK] at hv
  have hv : relAllB xs (es.toList.map (·.val)) = true := hv
  refine ⟨hs, ks.zip (es.toList.map (·.val)), kv_zip _ _ hv ks, fun P hp hin => ?_⟩
  obtain ⟨p1, p2, p3⟩ := tab_pairs (P := P) es.toList ks he
  refine ⟨_, es, n, hin a _ hK, ⟨rfl, rfl, rfl⟩, rfl, fun e hm => p2 e (Array.mem_toList_iff.mpr hm), p1, ?_⟩
  rw [fst_zip _ _ (by rw [List.length_map]; exact p3)]
  exact nd
theorem keyL_are {P : Program} {w : World} : ∀ (l : List Value) (ks : List Key), keyL l = some ks → ItemsAre (mixKind P w) ks l
  | [], ks, h => by
    cases h
    exact .nil
  | v :: l, ks, h => by
    unfold keyL at h
    split at h
    · rename_i k ks0 q1 q2
      cases h
      exact .cons (keyV_is q1) (keyL_are l _ q2)
    · cases h
theorem tab_ents {P : Program} {w : World} {K : PySem.W.Frag} : ∀ (l : List DictEntry) (ks : List (List Key)) (ys : List V), l.map (tabE K) = keysX w (ks.map .inr) → relAllB ys (l.map (·.val)) = true →
    ∃ xs : List (List Key × Addr × Value), l = xs.map (entryOfKey (tupleKind (mixKind P w))) ∧ (∀ x ∈ xs, ∃ (o : Obj) (its : Array Value) (n : Nat), K.lookup x.2.1 = some o ∧ o.cls = .type "tuple" ∧ o.data = .seq its n ∧ keyL its.toList = some x.1) ∧ xs.map (·.1) = ks ∧ KTk (ks.zip ys) xs
  | [], [], [], _, _ => ⟨[], rfl, fun _ h => absurd h (by simp), rfl, .nil⟩
  | [], [], _ :: _, _, h => by cases h
  | [], _ :: _, _, h, _ => by cases h
  | _ :: _, [], _, h, _ => by cases h
  | _ :: _, _ :: _, [], _, h => by cases h
  | e :: l, k :: ks, y :: ys, h, hv => by
    have h1 : tabE K e :: l.map (tabE K) = some (.inr k, hashX w (.inr k)) :: keysX w (ks.map .inr) := h
    injection h1 with h2 h3
    obtain ⟨a1, a2⟩ := tabE_of h2
    obtain ⟨b, o, its, n, c1, c2, c3, c4, c5⟩ := keyX_inr a1
    have hv : (He.relB y e.val && relAllB ys (l.map (·.val))) = true := hv
    obtain ⟨xs, d1, d2, d3, d4⟩ := tab_ents (P := P) l ks ys h3 (both hv).2
    refine ⟨(k, b, e.val) :: xs, ?_, fun x hx => ?_, congrArg (k :: ·) d3, .cons ⟨rfl, He.relB_ok (both hv).1⟩ d4⟩
    · obtain ⟨eh, ek, ev⟩ := e
      have c1 : ek = .ref b := c1
      have a2 : eh = hashX w (.inr k) := a2
      rw [c1, a2, d1]
      rfl
    · rcases List.mem_cons.mp hx with q | q
      · rw [q]
        exact ⟨o, its, n, c2, c3, c4, c5⟩
      · exact d2 x q
theorem tab_okT {w : World} {K : PySem.W.Frag} {a : Addr} {ks : List (List Key)} {ys : List V} (h : tabW K a = some (keysX w (ks.map .inr))) (hv : tabV K a ys = true) (nd : ks.Nodup) : TabTAt K w a (ks.zip ys) := by
  obtain ⟨es, n, hK, he, hs⟩ := tabW_obj h
  unfold tabV at hv
  rw [hK] at hv
  have hv : relAllB ys (es.toList.map (·.val)) = true := hv
  obtain ⟨xs, d1, d2, d3, d4⟩ := tab_ents (P := default) es.toList ks ys he hv
  refine ⟨hs, xs, d4, fun P hp hin => ⟨_, es, n, hin a _ hK, ⟨rfl, rfl, rfl⟩, rfl, d1, fun x hx => ?_, by rw [d3]; exact nd⟩⟩
  obtain ⟨o, its, m, c1, c2, c3, c4⟩ := d2 x hx
  exact ⟨o, its, m, hin _ _ c1, c2, c3, keyL_are _ _ c4⟩
end

/-! ### the Hook with such dicts -/
abbrev TabX : Type := Str × List KeyX
abbrev AlX : Type := AlM × List (Option (List (Option (KeyX × Int))))
def obsX (fa : List He.Fa) (ex : Frg → Bool) (fn : List DefM) (ts : List TabX) (K : Frg) : AlX := (obsM fa ex fn K, ts.map fun t => tabW K (He.ga K t.1))
def valX (fn : List DefM) (ts : List TabX) (w : World) : AlX := (valM fn, ts.map fun t => some (keysX w t.2))
def SaysX (fa : List He.Fa) (ex : Frg → Bool) (fn : List DefM) (ts : List TabX) (w : World) (K : Frg) : Prop := obsX fa ex fn ts K = valX fn ts w
def hookX (n : Nat) (fa : List He.Fa) (ex : Frg → Bool) (fn : List DefM) (ts : List TabX) : PySem.W.Hook where
  α := AlX
  obs := fun s => obsX fa ex fn ts (frM n s.heap.get?)
  val := fun w => valX fn ts w
  says := fun w h => ∃ K : Frg, K.In h ∧ SaysX fa ex fn ts w K
  of := fun _ _ e => ⟨_, He.frG_in, e⟩
  keeps := fun _ _ _ ⟨K, hK, c⟩ k => ⟨K, PySem.W.Frag.In.keeps hK k, c⟩
theorem obsX_eq {n : Nat} {fa : List He.Fa} {ex : Frg → Bool} {fn : List DefM} {ts : List TabX} {g : Addr → Option Obj} {s : Shared} (h : ∀ a, g a = s.heap.get? a) : obsX fa ex fn ts (frM n g) = (hookX n fa ex fn ts).obs s := by
  have e : g = s.heap.get? := funext h
  subst e
  rfl
section
variable {fa : List He.Fa} {ex : Frg → Bool} {fn : List DefM} {ts : List TabX} {w : World} {K : Frg}
theorem SaysX.m (c : SaysX fa ex fn ts w K) : SaysM fa ex fn K := congrArg (fun z : AlX => z.1) c
theorem SaysX.tab (c : SaysX fa ex fn ts w K) (i : Nat) {t : TabX} (h : ts[i]? = some t) : tabW K (He.ga K t.1) = some (keysX w t.2) := by
  have e : ts.map (fun t => tabW K (He.ga K t.1)) = ts.map fun t => some (keysX w t.2) := congrArg (fun z : AlX => z.2) c
  have e2 : (ts.map fun t => tabW K (He.ga K t.1))[i]? = (ts.map fun t => some (keysX w t.2))[i]? := by rw [e]
  rw [List.getElem?_map, List.getElem?_map, h] at e2
  exact Option.some.inj e2
end
/-! ### a display of a dict asks the world one thing: both answers are run -/
def setF (w : World) (b : Bool) : World := { w with params := { w.params with followText := fun x => if x = "special-get-raises" then b else w.params.followText x } }
theorem setF_eq (w : World) : setF w (w.params.followText "special-get-raises") = w := by
  have e : (fun x => if x = "special-get-raises" then w.params.followText "special-get-raises" else w.params.followText x) = w.params.followText := by
    funext x
    by_cases h : x = "special-get-raises"
    · rw [if_pos h, h]
    · rw [if_neg h]
  show ({ w with params := { w.params with followText := fun x => if x = "special-get-raises" then w.params.followText "special-get-raises" else w.params.followText x } } : World) = w
  rw [e]

/-! ### own exceptions with one field; defs that raise -/
def oexB (K : Frg) (C : Addr) : Bool := match K.lookup C with
  | some ⟨.type t, _, .cls cd, sl⟩ => decide (t = "type") && (match cd.mro, sl.toList with
    | .ref c :: bm, [_, _, _, _, some (.builtin n), _] => decide (c = C) && (decide (n = "ValueError.__new__") && (!cd.hasDel && (cd.hasDict && PySem.HandSPX.refsVE bm)))
    | _, _ => false)
  | _ => false
theorem oexM {K : Frg} {C : Addr} (h : oexB K C = true) : ∃ nm q N bs bm sn sub ab col dd k0 k1 k2 k3 k5, K.lookup C = some (excClassObj nm q C N bs bm true sn sub ab col dd k0 k1 k2 k3 k5 "ValueError.__new__") ∧ PySem.HandSPX.refsVE bm = true := by
  unfold oexB at h
  split at h
  · rename_i t dd cd sl ho
    obtain ⟨h1, h⟩ := both h
    have h1 : t = "type" := of_decide_eq_true h1
    split at h
    · rename_i c bm k0 k1 k2 k3 n k5 hm hs
      obtain ⟨h2, h⟩ := both h
      obtain ⟨h3, h⟩ := both h
      obtain ⟨h4, h⟩ := both h
      obtain ⟨h5, h6⟩ := both h
      have h2 : c = C := of_decide_eq_true h2
      have h3 : n = "ValueError.__new__" := of_decide_eq_true h3
      obtain ⟨nm, bs, mro, ns, qn, hd, sn, sub, ab, col, del⟩ := cd
      dsimp only at hm h4 h5
      have h4 : del = false := by cases del <;> first | rfl | cases h4
      subst hm h4 h5 h1 h2 h3
      have hsl : sl = #[k0, k1, k2, k3, some (.builtin "ValueError.__new__"), k5] := by
        obtain ⟨l⟩ := sl
        simp only at hs
        rw [hs]
      subst hsl
      exact ⟨nm, qn, ns, bs, bm, sn, sub, ab, col, dd, k0, k1, k2, k3, k5, ho, h6⟩
    · cases h
  · cases h
/-- the class at C may be raised with one field f; its __init__ stands at fI -/
structure ExcK (K : Frg) (C fI : Addr) (f : Str) : Prop where
  oex : OexC K C
  ini : PySem.W.findIn K (.ref C) "__init__" = some (some (.ref fI))
  tI : PySem.W.typeIn K (.ref fI) = some (.type "function")
  no : PySem.W.findIn K (.ref C) f = some none
  xf : XfC K C
  te : PySem.W.exmOne K (.ref C) (.ref C) = some true
def exkB (K : Frg) (C fI : Addr) (f : Str) : Bool := oexB K C && (He.eqO (PySem.W.findIn K (.ref C) "__setattr__") (some (some (.builtin "object.__setattr__"))) && (decide (PySem.W.subIn K (.ref C) (.type "BaseException") = some true) &&
  (decide (PySem.W.typeIn K (.ref C) = some (.type "type")) && (PySem.W.keepIn K (.ref C) && (He.eqO (PySem.W.findIn K (.ref C) "__init__") (some (some (.ref fI))) && (decide (PySem.W.typeIn K (.ref fI) = some (.type "function")) &&
  (He.eqO (PySem.W.findIn K (.ref C) f) (some none) && (xfB K C && decide (PySem.W.exmOne K (.ref C) (.ref C) = some true)))))))))
theorem exkM {K : Frg} {C fI : Addr} {f : Str} (h : exkB K C fI f = true) : ExcK K C fI f := by
  obtain ⟨h1, h⟩ := both h
  obtain ⟨h2, h⟩ := both h
  obtain ⟨h3, h⟩ := both h
  obtain ⟨h4, h⟩ := both h
  obtain ⟨h5, h⟩ := both h
  obtain ⟨h6, h⟩ := both h
  obtain ⟨h7, h⟩ := both h
  obtain ⟨h8, h⟩ := both h
  obtain ⟨h9, h10⟩ := both h
  exact ⟨⟨oexM h1, He.eqO_ok h2, of_decide_eq_true h3, of_decide_eq_true h4, h5⟩, He.eqO_ok h6, of_decide_eq_true h7, He.eqO_ok h8, xfB_ok h9, of_decide_eq_true h10⟩
/-- __init__(self, f): self.f = f -/
def spExc (K : Frg) (f : Str) : Sp := fun vs H Q _ => ∃ (a C : Addr) (v : V), vs = [.ref a, v] ∧ OexC K C ∧ PySem.W.findIn K (.ref C) f = some none ∧ H a = some (exo a C none) ∧
  ∀ dx, H dx = none → dx ≠ a → Q .non (upd (upd H dx (exd dx [(f, v)])) a (exo a C (some dx)))
/-- an exception class of this name, ready to be raised -/
structure Raz (P : Program) (w : World) (K : Frg) (mg : Str → Option Value) (base : Heap) (x : Str) (C : Addr) (f : Str) : Prop where
  ex : ∃ (fI : Addr) (fd : FuncData), ExcK K C fI f ∧ mg x = some (.ref C) ∧ FnOk P w K mg base CX0 1 fI fd ["self", f] (spExc K f) ∧ Binds K fd ["self", f] []
/-- a def that may raise -/
structure CalX (P : Program) (w : World) (K : Frg) (mg : Str → Option Value) (base : Heap) (k : Nat) (x : Str) (sp : Sp) : Prop where
  ex : ∃ (f : Addr) (fd : FuncData) (ps : List Str), FnOk P w K mg base (L2.CX P w) k f fd ps sp ∧ mg x = some (.ref f) ∧ PySem.W.keepIn K (.ref f) = true ∧ Binds K fd ps []
/-- .. a method -/
structure MetX (P : Program) (w : World) (K : Frg) (mg : Str → Option Value) (base : Heap) (k : Nat) (C : Addr) (m : Str) (sp : Sp) : Prop where
  ex : ∃ (f : Addr) (fd : FuncData) (ps : List Str), Cls K C ∧ Meth K C m f ∧ FnOk P w K mg base (L2.CX P w) k f fd ps sp ∧ Binds K fd ps []
section
variable {P : Program} {w : World} {K : Frg} {mg : Str → Option Value} {base : Heap} {x qual : Str} {params : Arguments} {body : List Stmt} {scope : Scope} {f : Addr} {fd : FuncData} {N ps : List Str} {k : Nat} {sp : Sp} {C : Addr}
theorem calXD (F : FunD K x qual params body scope [] [] f fd) (m : mg x = some (.ref f)) (S : FnScope N ps scope)
    (hb : ∀ (kV doc pm : Value) (an : Option Addr) (cdv ct : Value) (us : List Value), us.length = ps.length → bindArgs (PySem.W.fnOf x qual params body scope .none kV doc pm an cdv ct) ⟨us, []⟩ = pure (ps.zip us))
    (len : ∀ vs H Q E, sp vs H Q E → vs.length = ps.length)
    (hbody : ∀ (cdv : Value) (A : Around) (outer : List Env) (s : Shared) (H : Hp) (vs : List V) (Q : VK) (E : XK), Room k (A.deeper (envOfC qual scope s.heap.objs.size f cdv)) → sp vs H Q E →
      ∃ t, PSs (cxOf (L2.CX P w) P w K mg base N qual scope f cdv A outer s H E) body t ∧ t { nx := fun _ H' => Q .non H', rt := Q } (start N vs) H) : CalX P w K mg base (k + 1) x sp :=
  ⟨f, fd, ps, F.ok S len hbody, m, F.kp, F.bindsN hb⟩
theorem metXD (F : FunD K x qual params body scope [] [] f fd) (cl : Cls K C) (me : Meth K C x f) (S : FnScope N ps scope)
    (hb : ∀ (kV doc pm : Value) (an : Option Addr) (cdv ct : Value) (us : List Value), us.length = ps.length → bindArgs (PySem.W.fnOf x qual params body scope .none kV doc pm an cdv ct) ⟨us, []⟩ = pure (ps.zip us))
    (len : ∀ vs H Q E, sp vs H Q E → vs.length = ps.length)
    (hbody : ∀ (cdv : Value) (A : Around) (outer : List Env) (s : Shared) (H : Hp) (vs : List V) (Q : VK) (E : XK), Room k (A.deeper (envOfC qual scope s.heap.objs.size f cdv)) → sp vs H Q E →
      ∃ t, PSs (cxOf (L2.CX P w) P w K mg base N qual scope f cdv A outer s H E) body t ∧ t { nx := fun _ H' => Q .non H', rt := Q } (start N vs) H) : MetX P w K mg base (k + 1) C x sp :=
  ⟨f, fd, ps, cl, me, F.ok S len hbody, F.bindsN hb⟩
end
def tMethS (C : Addr) (m : Str) (sp : Sp) (E : St → XK) (ta : TE) (t : TA) : TE := fun σ H Q => ta σ H fun x H1 => ∃ a dx fs, x = .ref a ∧ H1 a = some (.ins C dx fs) ∧ fs.lookup m = none ∧ t σ H1 fun vs H2 => sp (x :: vs) H2 Q (E σ)
section
variable {X : Cx} {k j : Nat} {C : Addr} {x m : Str} {sp : Sp} {W : WX} {p pos apos pos2 : Pos} {e o : Expr} {es : List Expr} {ta : TE} {t : TA}
theorem pe_cX (c : CalX X.prog X.w X.K X.mg X.base k x sp) (hr : Room j X.A) (hk : k ≤ j) (hg : Gl X x) (tk : Takes X W) (ha : PA X (e :: es) t)
    (hdb : (x == ("__debug__" : Str)) = false := by decide) (he : starEach (e :: es) X.env = (false, eval e X.env) :: starEach es X.env := by rfl) (hpl : (backTo pos (starEach es X.env)).any (·.1) = false := by rfl) :
    PE X (.Call (.Name x p) (e :: es) [] pos) (tCallS sp (WE W) t) := by
  obtain ⟨f, fd, ps, F, hm, kp, b⟩ := c.ex
  exact pe_callS F (hr.mono hk) hg hm kp b (fun σ => passAt tk σ) ha hdb he hpl
theorem pe_mtX {pl : Sem Bool} (c : MetX X.prog X.w X.K X.mg X.base k C m sp) (hr : Room j X.A) (hk : k ≤ j) (tk : Takes X W) (he : PE X o ta) (ha : PA X (e :: es) t)
    (hst : starEach (e :: es) X.env = (false, eval e X.env) :: starEach es X.env := by rfl) (hpl : (backTo pos (starEach es X.env)).any (·.1) = false := by rfl)
    (ht : eval (.Call (.Attribute o m apos) (e :: es) [] pos) X.env = (do
      let ov ← eval o X.env
      standAt apos.atName
      let (f, first) ← holding [ov] (getMethod ov m pl)
      callWith pos f first (backTo pos (starEach (e :: es) X.env)) (backToKw pos (keywordEach [] X.env))) := by rfl) :
    PE X (.Call (.Attribute o m apos) (e :: es) [] pos) (tMethS C m sp (WE W) ta t) := by
  obtain ⟨f, fd, ps, hc, hm, F, b⟩ := c.ex
  refine ⟨fun pins s σ H Q I h => ?_⟩
  refine PySem.W.methodCall_KW (pl := pl) (thn (he.run pins s σ H _ I h) fun u s1 ⟨x, H1, I1, rx, a, dx, fs, ex, ea, l, q⟩ => ?_) ht
  subst ex
  obtain rfl : u = Value.ref a := rx
  refine getmeth_ok I1 ea hc hm l ?_
  refine PySem.W.callWith_K (first := [.ref a]) (h₀ := X.base) I.ok.mod.kin hm.kp (thn (ha.run pos pins s1 σ H1 _ I1 q) fun us s2 ⟨vs, H2, I2, r, q2⟩ => ⟨I2.kIn, ?_⟩) hst hpl
  exact run_fnS (us := .ref a :: us) (vs := .ref a :: vs) F (hr.mono hk) b (passAt tk σ) I2 (.cons rfl r) q2
theorem pe_mtX0 {pl : Sem Bool} (c : MetX X.prog X.w X.K X.mg X.base k C m sp) (hr : Room j X.A) (hk : k ≤ j) (tk : Takes X W) (he : PE X o ta)
    (ht : eval (.Call (.Attribute o m apos) [] [] pos) X.env = (do
      let ov ← eval o X.env
      standAt apos.atName
      let (f, first) ← holding [ov] (getMethod ov m pl)
      callWith pos f first (backTo pos (starEach [] X.env)) (backToKw pos (keywordEach [] X.env))) := by rfl) :
    PE X (.Call (.Attribute o m apos) [] [] pos) (tMethS C m sp (WE W) ta tNil) := by
  obtain ⟨f, fd, ps, hc, hm, F, b⟩ := c.ex
  refine ⟨fun pins s σ H Q I h => ?_⟩
  refine PySem.W.methodCall_KW (pl := pl) (thn (he.run pins s σ H _ I h) fun u s1 ⟨x, H1, I1, rx, a, dx, fs, ex, ea, l, q⟩ => ?_) ht
  subst ex
  obtain rfl : u = Value.ref a := rx
  refine getmeth_ok I1 ea hc hm l ?_
  exact PySem.W.callWith_K0 (first := [.ref a]) I1.kIn hm.kp (run_fnS (us := [.ref a]) (vs := [.ref a]) F (hr.mono hk) b (passAt tk σ) I1 (.cons rfl .nil) q)
def tWeak (te : TE) : TE := fun σ H Q => ∃ Q' : VK, te σ H Q' ∧ ∀ v H1, Q' v H1 → Q v H1
theorem pe_weak (he : PE X e ta) : PE X e (tWeak ta) := ⟨fun pins s σ H Q I ⟨Q', h, m⟩ => wpAny_mono (he.run pins s σ H Q' I h) (fun _ _ ⟨v, H1, I1, r, q⟩ => ⟨v, H1, I1, r, m v H1 q⟩) fun _ _ z => z⟩
/-- raise C(e), C with one field -/
def tRaz (C : Addr) (f : Str) (W : WX) (te : TE) : TS := fun _ σ H => te σ H fun v H1 => ∀ d, H1 d = none → W (.ref C) (some d) σ (upd H1 d (.xd [(f, v)]))
theorem ps_raz {f : Str} (r : Raz X.prog X.w X.K X.mg X.base x C f) (hc : X.calm = true) (hr : Room j X.A) (hk : 2 ≤ j) (hg : Gl X x) (tk : Takes X W) (he : PE X e ta)
    (hdb : (x == ("__debug__" : Str)) = false := by decide) (hs : starEach (e :: []) X.env = (false, eval e X.env) :: starEach [] X.env := by rfl) (hpl : (backTo pos (starEach [] X.env)).any (·.1) = false := by rfl) :
    PS X (.Raise (some (.Call (.Name x p) [e] [] pos)) none pos2) (tRaz C f W ta) := by
  obtain ⟨fI, fd, T, hm, F, b⟩ := r.ex
  have he2 : PE X e (tWeak ta) := pe_weak he
  have z := ps_raise (pos := pos2) hc tk (pmk_oex (p := p) (pos := pos) T.oex T.ini T.tI F (hr.mono hk) b .nil pass0 hg hm (pa_cons he2 pa_nil hs) hdb hs hpl)
  refine ⟨fun pins s σ H D I h => z.run pins s σ H D I ?_⟩
  refine ⟨_, h, fun v H1 q => ⟨by show 1 ≤ 1000; decide, fun a ha => ⟨a, C, v, rfl, T.oex, T.no, upd_same, fun dx hd hne => ⟨rfl, dx, [(f, v)], upd_same, ?_, ?_, ?_⟩⟩⟩⟩
  · rw [upd_ne hne, upd_same]
  · rw [upd_ne hne] at hd
    exact hd
  · rw [upd_ne hne] at hd
    have e : upd (del (upd (upd (upd H1 a (exo a C none)) dx (exd dx [(f, v)])) a (exo a C (some dx))) a) dx (.xd [(f, v)]) = upd H1 dx (.xd [(f, v)]) := by
      funext b
      by_cases hb : b = dx
      · rw [hb, upd_same, upd_same]
      · rw [upd_ne hb, upd_ne hb]
        by_cases hba : b = a
        · rw [hba, del_same, ha]
        · rw [del_ne hba, upd_ne hba, upd_ne hb, upd_ne hba]
    rw [e]
    exact q dx hd
end
section
variable {σ : St} {H : Hp} {D : Ends} {Q : VK} {C a : Addr} {K : Frg} {f m : Str} {W : WX} {te to ta : TE} {t : TA} {sp : Sp} {E : St → XK} {n : St → Hp → Prop} {r : VK} {b c : St → Hp → Prop} {cls : Value} {d : Option Addr}
theorem r_raz (h : te σ H fun v H1 => ∀ d, H1 d = none → W (.ref C) (some d) σ (upd H1 d (.xd [(f, v)]))) : tRaz C f W te D σ H := h
theorem r_ost (h : te σ H fun y H1 => to σ H1 fun x H2 => ∃ a C : Addr, x = .ref a ∧ OexC K C ∧ PySem.W.findIn K (.ref C) f = some none ∧
  ((H2 a = some (exo a C none) ∧ ∀ dx, H2 dx = none → dx ≠ a → n σ (upd (upd H2 dx (exd dx [(f, y)])) a (exo a C (some dx)))) ∨
    ∃ (dx : Addr) (fs : List (Str × V)), H2 a = some (exo a C (some dx)) ∧ H2 dx = some (exd dx fs) ∧ fs.length ≤ 900 ∧ n σ (upd H2 dx (exd dx ((f, y) :: fs))))) : tOst K f to te ⟨n, r, b, c⟩ σ H := h
theorem r_callS (h : t σ H fun vs H1 => sp vs H1 Q (E σ)) : tCallS sp E t σ H Q := h
theorem r_methS (h : ta σ H fun x H1 => ∃ a dx fs, x = .ref a ∧ H1 a = some (.ins C dx fs) ∧ fs.lookup m = none ∧ t σ H1 fun vs H2 => sp (x :: vs) H2 Q (E σ)) : tMethS C m sp E ta t σ H Q := h
theorem r_xf (h : te σ H fun x H1 => x = .ref a ∧ cls = .ref C ∧ ∃ (dd : Addr) (fs : List (Str × V)) (v : V), d = some dd ∧ H1 dd = some (.xd fs) ∧ fs.lookup f = some v ∧ Q v H1) : tXf a cls d C f te σ H Q := h
end
section
variable {P : Program} {w : World} {K : Frg} {mg : Str → Option Value} {base : Heap} {params : Arguments} {body : List Stmt} {scope : Scope} {f : Addr} {fd : FuncData} {x : Str} {C : Addr}
/-- an exception class from what the top wrote -/
theorem razM {n qual : Str} {dv : V} (F : FunD K "__init__" qual params body scope [dv] [] f fd) (S : FnScope ["self", n] ["self", n] scope) (T : ExcK K C f n) (m : mg x = some (.ref C))
    (h : ∀ (Tt : Addr) (kV doc pm : Value) (an : Option Addr) (cdv ct : Value) (us its : List Value), us.length = 2 → its.length = 1 →
      ∃ k, bindArgs (PySem.W.fnOf "__init__" qual params body scope (.ref Tt) kV doc pm an cdv ct) ⟨us, []⟩ = seqItems? (.ref Tt) >>= k ∧ k (some its.toArray) = pure ((["self", n] : List Str).zip (us ++ its.drop 1)))
    (hbody : ∀ (cdv : Value) (A : Around) (outer : List Env) (s : Shared) (H : Hp) (E : XK), PSs (cxOf CX0 P w K mg base ["self", n] qual scope f cdv A outer s H E).nox body (tOst K n (tVar 0) (tVar 1))) : Raz P w K mg base x C n := by
  obtain ⟨ds, r, b⟩ := F.binds1 2 1 (List.cons_ne_nil _ _) rfl h
  have e : ds = [] := by
    cases r
    rfl
  subst e
  refine ⟨f, fd, T, m, F.ok S (fun vs H Q E hs => ?_) fun cdv A outer s H vs Q E hr hs => ?_, b⟩
  · obtain ⟨_, _, _, rfl, _⟩ := hs
    rfl
  · obtain ⟨a, C', v, rfl, T', no, ea, q⟩ := hs
    refine ⟨_, (hbody cdv A outer s H E).nox, ?_⟩
    exact ⟨_, rfl, _, rfl, a, C', rfl, T', no, .inl ⟨ea, q⟩⟩
end
section
variable {X : Cx} {x n : Str} {c : Value} {i : Nat} {body suite : List Stmt} {b₀ : Stmt} {np pos pos' : Pos} {tb : WX → TS} {ts : Addr → Value → Option Addr → TS} {Wout : WX}
/-- ps_try_as, the readings told behind the bodies (so that the elaborator sees the statements first) -/
theorem ps_try_asE (hs : X.stack = X.env :: X.outer) (hf : X.env.frame = some X.env.locals) (hN : X.N.Nodup) (hi : X.N[i]? = some n) (hln : X.env.kindOf n = some .local) (hc : Names X x c) (tk : Takes X Wout)
    (hb : ∀ (W : WX) (pn : List (Addr × Obj)) (xe : Value → Shared → Prop), Takes (X.tr pn xe) W → PassesOwn (model X.prog X.w) X.A X.env xe → ∃ t, PSs (X.tr pn xe) body t ∧ t = tb W)
    (hsu : ∀ (a : Addr) (oe : Obj) (cls : Value) (d : Option Addr) (pn : List (Addr × Obj)), Zc cls d oe → (∃ vs, oe.data = .fields vs) → ∃ t, PSs (X.suite a ((a, oe) :: pn)) (b₀ :: suite) t ∧ t = ts a cls d) :
    PS X (.Try body [.ExceptHandler (some (.Name x np)) (some n) (b₀ :: suite) pos'] [] [] pos) (fun D σ H => tb (wAs X.K c i ts Wout D) D σ H) :=
  ps_try_as hs hf hN hi hln hc tk (fun W pn xe h1 h2 => by
    obtain ⟨t, p, e⟩ := hb W pn xe h1 h2
    rw [← e]
    exact p) fun a oe cls d pn h1 h2 => by
    obtain ⟨t, p, e⟩ := hsu a oe cls d pn h1 h2
    rw [← e]
    exact p
end
theorem pi_listK {X : Cx} {tg l : Expr} {tl : TE} {K : Frg} (e : X.K = K) (hl : PE X l tl) : PI X tg l (iList K tl) := by
  rw [← e]
  exact pi_list hl

/-! ### isinstance of a caught error that has a field -/
structure IsxC (K : Frg) (D : Addr) : Prop where
  xf : XfC K D
  ha : PySem.W.findIn K (.ref D) "__class__" = some (some (.builtin "object.__class__"))
  hn : PySem.W.specialIn K (.builtin "object.__class__") "__get__" = some (some (.builtin "getset_descriptor.__get__"))
  ht : PySem.W.takesIn K (.builtin "object.__class__") = some true
  hm : PySem.W.mroIn K D (.type "object") = some true
def isxB (K : Frg) (D : Addr) : Bool := xfB K D && (decide (PySem.W.findIn K (.ref D) "__class__" = some (some (.builtin "object.__class__"))) && (decide (PySem.W.specialIn K (.builtin "object.__class__") "__get__" = some (some (.builtin "getset_descriptor.__get__"))) && (decide (PySem.W.takesIn K (.builtin "object.__class__") = some true) && decide (PySem.W.mroIn K D (.type "object") = some true))))
theorem isxM {K : Frg} {D : Addr} (h : isxB K D = true) : IsxC K D := by
  obtain ⟨h1, h⟩ := both h
  obtain ⟨h2, h⟩ := both h
  obtain ⟨h3, h⟩ := both h
  obtain ⟨h4, h5⟩ := both h
  exact ⟨xfB_ok h1, of_decide_eq_true h2, of_decide_eq_true h3, of_decide_eq_true h4, of_decide_eq_true h5⟩
def rIsX (K : Frg) (a : Addr) (cls : Value) (d : Option Addr) : List V → Hp → VK → Prop := fun xs H Q => ∃ (C D dd : Addr) (fs : List (Str × V)) (b : Bool), xs = [.ref a, .ref C] ∧ cls = .ref D ∧ d = some dd ∧ H dd = some (.xd fs) ∧ IsxC K D ∧ PySem.W.kitOne K (.ref D) (.ref C) = some b ∧ Q (.bl b) H
theorem call_isX {X : Cx} {a : Addr} {cls : Value} {d : Option Addr} {oe : Obj} {pn : List (Addr × Obj)} (hz : Zc cls d oe) (hf : ∃ vs, oe.data = .fields vs) : CallR (X.suite a ((a, oe) :: pn)) (.builtin "isinstance") (rIsX X.K a cls d) := by
  intro pins s σ H xs us Q I r h
  obtain ⟨C, D, dd, fs, b, rfl, rfl, rfl, ea, T, e, q⟩ := h
  cases r with
  | cons rx rr =>
    cases rr with
    | cons rt rr =>
      cases rr
      cases rx
      cases rt
      obtain ⟨hget, _⟩ := I.pin (a, oe) (List.mem_append_left _ List.mem_cons_self)
      obtain ⟨vs, hv⟩ := hf
      have hx : ObjOk X.prog X.w H s.heap dd (.xd fs) := I.hok dd _ ea
      obtain ⟨mA, hns, _⟩ := hx
      obtain ⟨od, ho, _⟩ := lookIn_ns hns
      have J : PySem.W.InstAt s.heap a oe D (some od) := ⟨hget, hz.1, by unfold PySem.W.notCls; rw [hv] <;> rfl, by rw [hz.2]; exact ho⟩
      have ic : (PySem.W.clsIn X.K D).isSome = true := by
        have q := T.xf.hdC
        unfold PySem.W.hasDictIn at q
        cases z : PySem.W.clsIn X.K D with
        | some c => rfl
        | none => rw [z] at q; cases q
      exact PySem.W.kia_one (PySem.W.kitx_exc ic T.xf.ga T.xf.gg T.xf.exC T.ha T.hn T.ht T.hm) I.kIn J e (fun z => nomatch z) fun tk => ⟨.bl b, H, I.kept (t' := tk) fun _ _ z => z, rfl, q⟩

/-! ### the Hook over addresses that are written down -/
def hookY (l : List Addr) (fa : List He.Fa) (ex : Frg → Bool) (fn : List DefM) (ts : List TabX) : PySem.W.Hook where
  α := AlX
  obs := fun s => obsX fa ex fn ts (He.frG s.heap.get? l)
  val := fun w => valX fn ts w
  says := fun w h => ∃ K : Frg, K.In h ∧ SaysX fa ex fn ts w K
  of := fun _ _ e => ⟨_, He.frG_in, e⟩
  keeps := fun _ _ _ ⟨K, hK, c⟩ k => ⟨K, PySem.W.Frag.In.keeps hK k, c⟩
theorem obsY_eq {l : List Addr} {fa : List He.Fa} {ex : Frg → Bool} {fn : List DefM} {ts : List TabX} {g : Addr → Option Obj} {s : Shared} (h : ∀ a, g a = s.heap.get? a) : obsX fa ex fn ts (He.frG g l) = (hookY l fa ex fn ts).obs s := by
  have e : g = s.heap.get? := funext h
  subst e
  rfl
/-- the same for a program without such dicts -/
def hookZ (l : List Addr) (fa : List He.Fa) (ex : Frg → Bool) (fn : List DefM) : PySem.W.Hook where
  α := AlM
  obs := fun s => obsM fa ex fn (He.frG s.heap.get? l)
  val := fun _ => valM fn
  says := fun _ h => ∃ K : Frg, K.In h ∧ SaysM fa ex fn K
  of := fun _ _ e => ⟨_, He.frG_in, e⟩
  keeps := fun _ _ _ ⟨K, hK, c⟩ k => ⟨K, PySem.W.Frag.In.keeps hK k, c⟩
theorem obsZ_eq {l : List Addr} {fa : List He.Fa} {ex : Frg → Bool} {fn : List DefM} {g : Addr → Option Obj} {s : Shared} (h : ∀ a, g a = s.heap.get? a) : obsM fa ex fn (He.frG g l) = (hookZ l fa ex fn).obs s := by
  have e : g = s.heap.get? := funext h
  subst e
  rfl

/-! ### a def that is given as an argument, and called by the parameter's name -/
def tCallN (mg : Str → Option Value) (i : Nat) (y : Str) (sp : Sp) (t : TA) : TE := fun σ H Q => (∃ f, σ[i]? = some (some (.ref f)) ∧ mg y = some (.ref f)) ∧ t σ H fun vs H1 => sp (vs ++ []) H1 Q C8.E0
section
variable {X : Cx} {k j i : Nat} {x y : Str} {sp : Sp} {p pos : Pos} {e : Expr} {es : List Expr} {t : TA}
theorem pe_cL (c : Cal X.prog X.w X.K X.mg X.base k y sp []) (hr : Room j X.A) (hk : k ≤ j) (ha : PA X (e :: es) t)
    (hN : X.N[i]? = some x := by rfl) (hv : Vis X.env.scope x := by first | exact Or.inl rfl | exact Or.inr (Or.inl rfl) | exact Or.inr (Or.inr rfl))
    (hdb : (x == ("__debug__" : Str)) = false := by decide) (hcd : (x == ("__classdict__" : Str)) = false := by decide) (he : starEach (e :: es) X.env = (false, eval e X.env) :: starEach es X.env := by rfl) (hpl : (backTo pos (starEach es X.env)).any (·.1) = false := by rfl) :
    PE X (.Call (.Name x p) (e :: es) [] pos) (tCallN X.mg i y sp t) := by
  refine ⟨fun pins s σ H Q I h => ?_⟩
  obtain ⟨⟨f, hs, hf⟩, ht⟩ := h
  obtain ⟨f', fd, ps, ds, F, hm, kp, b, d⟩ := c.ex
  rw [hm] at hf
  cases hf
  exact (L2.pe_callL (i := i) (f := f) (sp := sp) (dvs := []) (E := C8.E0) F (hr.mono hk) hN hv kp b d pass0 ha hdb hcd he hpl).run pins s σ H Q I ⟨hs, ht⟩
end
theorem r_callN {mg : Str → Option Value} {i : Nat} {y : Str} {sp : Sp} {t : TA} {σ : St} {H : Hp} {Q : VK} {f : Addr} (h1 : σ[i]? = some (some (.ref f))) (h2 : mg y = some (.ref f)) (h : t σ H fun vs H1 => sp (vs ++ []) H1 Q C8.E0) : tCallN mg i y sp t σ H Q := ⟨⟨f, h1, h2⟩, h⟩

/-! ### f'{x:02x}' of an octet -/
section
open PySem.Builtin PySem.Builtin.Float PyProof.Rows
open Builtin Float
def hxd (d : Int) : Nat := if d < 10 then (48 + d).toNat else (87 + d).toNat
def hex2 (a : Int) : Str := ⟨#[hxd (a / 16), hxd (a % 16)]⟩
theorem hp02x : parseFormatSpec ("02x" : Str).cps.toList "int" 62 = .ok { fill := 48, align := 61, sign := none, noNeg0 := false, alt := false, width := some 2, grouping := none, precision := none, type := some 120 } := by rfl
section
variable {prog : Program} {w : World} {A : Around} {E : Value → Shared → Prop} {s : Shared}
theorem retStr_eq {x y : Str} {Q : Fin → Shared → Prop} (e : x = y) (h : wpAny (model prog w) A (retStr y) Q E s) : wpAny (model prog w) A (retStr x) Q E s := by
  rw [e]
  exact h
theorem wpF {M : PySem.Model} {A : Around} {α : Type} {c : Prop} {i : Decidable c} {x y : Sem α} {Q : α → Shared → Prop} {E : Value → Shared → Prop} {s : Shared} (h : ¬ c) (k : wpAny M A y Q E s) : wpAny M A (@ite _ c i x y) Q E s := by
  rw [if_neg h]
  exact k
theorem itT {α : Type} {c : Bool} {x y : α} (h : c = true) : (if c = true then x else y) = x := if_pos h
theorem itF {α : Type} {c : Bool} {x y : α} (h : c = false) : (if c = true then x else y) = y := if_neg (by rw [h]; exact Bool.false_ne_true)
theorem formatField_02x {a : Int} {t : Tok} {Q : Value → Shared → Prop} (h0 : 0 ≤ a) (h1 : a < 256)
    (h : Q (.str (hex2 a) (s.toks + 1)) { s with toks := s.toks + 1 + 1 }) :
    wpAny (model prog w) A (formatField (.int a t) ("02x" : Str)) Q E s := by
  show wpAny _ _ (holding [.int a t] (pyFormat (.int a t) ("02x" : Str))) Q E s
  refine wpAny_holding ?_
  unfold pyFormat
  refine wpAny_bind (wpAny_mkStr ?_ (by decide))
  refine wpAny_bind (m := callSpecial? (.int a t) (Str.ofString "__format__") [.str ("02x" : Str) s.toks]) (wpAny_callSpecial?_slot (name := Str.ofString "__format__") (typeIs_int _ a t) slot_int_format ?_)
  refine wpAny_call (codeAny_call_builtin slot_int_format.plain entry_int_format (slot_int_format.check _ _ _ _ _ _ _ _ (typeIs_int _ a t) (args_int_format _ _) ?_))
  unfold Builtin.«int.__format__»
  simp only [selfAndOne, noKeywords, Int.intOfSelf, asInt?, asStr?, List.isEmpty_nil, if_true, pure_bind, bind_pure, bind_assoc, Bool.false_eq_true, if_false,
    show (Value.str ("02x" : Str) s.toks == Value.none) = false from rfl, show (("02x" : Str).length == 0) = false by decide]
  refine wpAny_bind (wpAny_typeNameOf (T := "str") (typeIs_str _ _ _) (by decide) fun _ => ?_)
  rw [if_neg (by decide)]
  refine wpAny_bind (wpAny_typeNameOfCut_int ?_)
  obtain ⟨f, hp, hf⟩ : ∃ f, parseFormatSpec ("02x" : Str).cps.toList "int" 62 = .ok f ∧ f = { fill := 48, align := 61, sign := none, noNeg0 := false, alt := false, width := some 2, grouping := none, precision := none, type := some 120 } := ⟨_, hp02x, rfl⟩
  have hty : f.type.getD (if (("02x" : Str).cps.back? == some 0) = true then 0 else 100) = 120 := by rw [hf]; rfl
  simp only [hp, hty]
  rw [itT]
  rotate_left
  · decide
  refine wpF (by rw [hf]; decide) ?_
  refine wpF (by rw [hf]; decide) ?_
  refine wpF (by decide) ?_
  refine wpF (by decide) ?_
  refine wpF (by rw [hf]; decide) ?_
  show wpAny _ _ (retStr _) _ _ _
  refine retStr_eq (y := hex2 a) ?_ ?_
  · obtain ⟨k, rfl⟩ := Int.eq_ofNat_of_zero_le h0
    have hk : k < 256 := by omega
    subst hf
    clear h h1 h0 hp hty
    revert k
    decide +kernel
  unfold retStr
  refine wpAny_bind (wpAny_mkStr (wpAny_pure ?_) (by show 2 ≤ sizeLine; decide))
  dsimp only
  exact wpAny_bind (wpAny_isInstance (typeIs_str _ _ _) isSubtype_str_str (wpAny_pure h))
end
end
def tHex2 (te : TE) : TE := fun σ H Q => te σ H fun x H1 => ∃ a : Int, x = .int a ∧ 0 ≤ a ∧ a < 256 ∧ Q (.str (hex2 a)) H1
theorem pe_hex2 {X : Cx} {e : Expr} {te : TE} {j : Nat} {p2 p3 pos : Pos} (he : PE X e te) : PE X (.FormattedValue e (-1) (some (.JoinedStr [.Constant (.str "02x") j p2] p3)) pos) (tHex2 te) := by
  refine ⟨fun pins s σ H Q I h => ?_⟩
  refine wpAny_FormattedValue_spec (thn (he.run pins s σ H _ I h) fun v s1 hv => ?_)
  obtain ⟨x, H1, I1, r1, a, rfl, a0, a1, q⟩ := hv
  obtain ⟨t, rfl⟩ := r1
  refine thn ((pe_joined1 (pos := p3) (pe_str (X := X) (x := "02x") (j := j) (pos := p2))).run pins s1 σ H1 (fun v H2 => v = .str "02x" ∧ H1 = H2) I1 ⟨rfl, rfl⟩) fun u s2 hu => ?_
  obtain ⟨y, H2, I2, r2, rfl, rfl⟩ := hu
  obtain ⟨t2, rfl⟩ := r2
  refine ⟨_, t2, rfl, formatField_02x a0 a1 ?_⟩
  exact ⟨.str (hex2 a), H1, I2.tok _, ⟨_, rfl⟩, q⟩

/-! ### own classes: made, their fields and methods -/
theorem lk_hit (k : Str) (v : V) (r : List (Str × V)) : List.lookup k ((k, v) :: r) = some v := by simp [List.lookup]
theorem lk_miss {k a : Str} {v : V} {r : List (Str × V)} (h : (a == k) = false) : List.lookup a ((k, v) :: r) = List.lookup a r := by
  show (match a == k with
    | true => some v
    | false => List.lookup a r) = _
  rw [h]
theorem pf_nil (k : Str) (v : V) : putF k v [] = [(k, v)] := rfl
theorem pf_hit (k : Str) (v x : V) (r : List (Str × V)) : putF k v ((k, x) :: r) = (k, v) :: r := if_pos rfl
theorem pf_miss {k g : Str} {v x : V} {r : List (Str × V)} (h : ¬ g = k) : putF k v ((g, x) :: r) = (g, x) :: putF k v r := if_neg h
section
variable {X : Cx} {k j : Nat} {C : Addr} {x m : Str} {sp : Sp} {dvs : List V} {p pos apos : Pos} {e o : Expr} {es : List Expr} {ta : TE} {t : TA}
theorem pe_mk0 (c : Mak X.prog X.w X.K X.mg X.base k x C sp dvs) (hr : Room j X.A) (hk : k + 1 ≤ j) (hg : Gl X x) (hdb : (x == ("__debug__" : Str)) = false := by decide) : PE X (.Call (.Name x p) [] [] pos) (tMake C sp dvs C8.E0 tNil) := by
  obtain ⟨_, _, _, _, M, F, hm, b, d⟩ := c.ex
  exact pe_make0 M F (hr.mono hk) hg hm b d pass0 hdb
/-- a property of the class at C -/
structure Prp (P : Program) (w : World) (K : Frg) (mg : Str → Option Value) (base : Heap) (k : Nat) (C : Addr) (f : Str) (sp : Sp) : Prop where
  ex : ∃ (q g : Addr) (fd : FuncData) (ps : List Str), Cls K C ∧ PropOf K C f q g ∧ FnOk P w K mg base CX0 k g fd ps sp ∧ Binds K fd ps []
theorem pe_pr {f : Str} (c : Prp X.prog X.w X.K X.mg X.base k C f sp) (hr : Room j X.A) (hk : k + 1 ≤ j) (he : PE X o ta) (hab : attributeBase o f X.env (eval o X.env) = eval o X.env := by rfl) : PE X (.Attribute o f pos) (tProp C sp [] C8.E0 ta) := by
  obtain ⟨_, _, _, _, cl, q, F, b⟩ := c.ex
  exact pe_prop he cl q F (hr.mono hk) b .nil pass0 hab
end
section
variable {P : Program} {w : World} {K : Frg} {mg : Str → Option Value} {base : Heap} {x qual : Str} {params : Arguments} {body : List Stmt} {scope : Scope} {f : Addr} {fd : FuncData} {N ps : List Str} {k : Nat} {sp : Sp} {C : Addr}
theorem metD (F : FunD K x qual params body scope [] [] f fd) (cl : Cls K C) (me : Meth K C x f) (S : FnScope N ps scope)
    (hb : ∀ (kV doc pm : Value) (an : Option Addr) (cdv ct : Value) (us : List Value), us.length = ps.length → bindArgs (PySem.W.fnOf x qual params body scope .none kV doc pm an cdv ct) ⟨us, []⟩ = pure (ps.zip us))
    (len : ∀ vs H Q E, sp vs H Q E → vs.length = ps.length)
    (hbody : ∀ (cdv : Value) (A : Around) (outer : List Env) (s : Shared) (H : Hp) (vs : List V) (Q : VK) (E : XK), Room k (A.deeper (envOfC qual scope s.heap.objs.size f cdv)) → sp vs H Q E →
      ∃ t, PSs (cxOf CX0 P w K mg base N qual scope f cdv A outer s H E).nox body t ∧ t { nx := fun _ H' => Q .non H', rt := Q } (start N vs) H) : Met P w K mg base (k + 1) C x sp [] :=
  ⟨f, fd, ps, [], cl, me, fnD F S len hbody, F.bindsN hb, .nil⟩
theorem makD {y : Str} (F : FunD K x qual params body scope [] [] f fd) (M : Mk K C f) (m : mg y = some (.ref C)) (S : FnScope N ps scope)
    (hb : ∀ (kV doc pm : Value) (an : Option Addr) (cdv ct : Value) (us : List Value), us.length = ps.length → bindArgs (PySem.W.fnOf x qual params body scope .none kV doc pm an cdv ct) ⟨us, []⟩ = pure (ps.zip us))
    (len : ∀ vs H Q E, sp vs H Q E → vs.length = ps.length)
    (hbody : ∀ (cdv : Value) (A : Around) (outer : List Env) (s : Shared) (H : Hp) (vs : List V) (Q : VK) (E : XK), Room k (A.deeper (envOfC qual scope s.heap.objs.size f cdv)) → sp vs H Q E →
      ∃ t, PSs (cxOf CX0 P w K mg base N qual scope f cdv A outer s H E).nox body t ∧ t { nx := fun _ H' => Q .non H', rt := Q } (start N vs) H) : Mak P w K mg base (k + 1) y C sp [] :=
  ⟨f, fd, ps, [], M, fnD F S len hbody, m, F.bindsN hb, .nil⟩
theorem prpD {y : Str} {q : Addr} (F : FunD K x qual params body scope [] [] f fd) (cl : Cls K C) (pr : PropOf K C y q f) (S : FnScope N ps scope)
    (hb : ∀ (kV doc pm : Value) (an : Option Addr) (cdv ct : Value) (us : List Value), us.length = ps.length → bindArgs (PySem.W.fnOf x qual params body scope .none kV doc pm an cdv ct) ⟨us, []⟩ = pure (ps.zip us))
    (len : ∀ vs H Q E, sp vs H Q E → vs.length = ps.length)
    (hbody : ∀ (cdv : Value) (A : Around) (outer : List Env) (s : Shared) (H : Hp) (vs : List V) (Q : VK) (E : XK), Room k (A.deeper (envOfC qual scope s.heap.objs.size f cdv)) → sp vs H Q E →
      ∃ t, PSs (cxOf CX0 P w K mg base N qual scope f cdv A outer s H E).nox body t ∧ t { nx := fun _ H' => Q .non H', rt := Q } (start N vs) H) : Prp P w K mg base (k + 1) C y sp :=
  ⟨q, f, fd, ps, cl, pr, fnD F S len hbody, F.bindsN hb⟩
end
section
variable {σ : St} {H : Hp} {n b c : St → Hp → Prop} {r : VK} {Q : VK} {K : Frg} {a C dx : Addr} {fs : List (Str × V)} {f : Str} {v : V}
theorem r_fld {te : TE} (h : te σ H fun x H1 => ∃ a C dx fs v, x = .ref a ∧ H1 a = some (.ins C dx fs) ∧ Cls K C ∧ NoAttr K C f ∧ fs.lookup f = some v ∧ Q v H1) : tFld K te f σ H Q := h
theorem r_fget {R : V → Prop} (h : H a = some (.ins C dx fs)) (cl : Cls K C) (na : NoAttr K C f) (l : fs.lookup f = some v) (q : R v) :
    ∃ a' C dx fs v, V.ref a = .ref a' ∧ H a' = some (.ins C dx fs) ∧ Cls K C ∧ NoAttr K C f ∧ fs.lookup f = some v ∧ R v := ⟨a, C, dx, fs, v, rfl, h, cl, na, l, q⟩
theorem r_sfld {ta tv : TE} (h : tv σ H fun y H1 => ta σ H1 fun x H2 => ∃ a C dx fs, x = .ref a ∧ H2 a = some (.ins C dx fs) ∧ Cls K C ∧ NoAttr K C f ∧ fs.length < 1000 ∧ n σ (upd H2 a (.ins C dx (putF f y fs)))) : sFld K ta tv f ⟨n, r, b, c⟩ σ H := h
theorem r_fset {R : Hp → Prop} {fs' : List (Str × V)} (h : H a = some (.ins C dx fs)) (cl : Cls K C) (na : NoAttr K C f) (hl : fs.length < 1000) (e : putF f v fs = fs') (q : R (upd H a (.ins C dx fs'))) :
    ∃ a' C dx fs, V.ref a = .ref a' ∧ H a' = some (.ins C dx fs) ∧ Cls K C ∧ NoAttr K C f ∧ fs.length < 1000 ∧ R (upd H a' (.ins C dx (putF f v fs))) := ⟨a, C, dx, fs, rfl, h, cl, na, hl, by rw [e]; exact q⟩
theorem r_meth {m : Str} {sp : Sp} {dvs : List V} {E : XK} {ta : TE} {t : TA} (h : ta σ H fun x H1 => ∃ a dx fs, x = .ref a ∧ H1 a = some (.ins C dx fs) ∧ fs.lookup m = none ∧ t σ H1 fun vs H2 => sp (x :: (vs ++ dvs)) H2 Q E) : tMeth C m sp dvs E ta t σ H Q := h
theorem r_mget {m : Str} {R : Prop} (h : H a = some (.ins C dx fs)) (l : fs.lookup m = none) (q : R) : ∃ a' dx fs, V.ref a = .ref a' ∧ H a' = some (.ins C dx fs) ∧ fs.lookup m = none ∧ R := ⟨a, dx, fs, rfl, h, l, q⟩
theorem r_prop {sp : Sp} {dvs : List V} {E : XK} {ta : TE} (h : ta σ H fun x H1 => ∃ a dx fs, x = .ref a ∧ H1 a = some (.ins C dx fs) ∧ sp (.ref a :: dvs) H1 Q E) : tProp C sp dvs E ta σ H Q := h
theorem r_pget {R : Addr → Prop} (h : H a = some (.ins C dx fs)) (q : R a) : ∃ a' dx fs, V.ref a = .ref a' ∧ H a' = some (.ins C dx fs) ∧ R a' := ⟨a, dx, fs, rfl, h, q⟩
theorem r_make {sp : Sp} {dvs : List V} {E : XK} {t : TA} (h : t σ H fun vs H1 => ∀ x dx, H1 x = none → H1 dx = none → dx ≠ x → sp (.ref x :: (vs ++ dvs)) (upd (upd H1 dx (.own x)) x (.ins C dx [])) (fun v H2 => v = .non ∧ Q (.ref x) H2) E) : tMake C sp dvs E t σ H Q := h
end

/-! ### loops over rows -/
section
variable {X : Cx} {tg iter : Expr}
/-- one of two ways to come by an iterator -/
theorem pi_or {u v : TI} (h1 : PI X tg iter u) (h2 : PI X tg iter v) : PI X tg iter (fun σ H R => u σ H R ∨ v σ H R) := by
  refine ⟨fun pins s σ H R I h => ?_⟩
  rcases h with h | h
  · exact h1.run pins s σ H R I h
  · exact h2.run pins s σ H R I h
end
set_option maxHeartbeats 8000000 in
theorem meets_enum1 {v : Value} {o : Obj} {G : Heap → Prop} (B : Begins v o G) :
    Meets (Builtin.«enumerate.__new__» ⟨[.type "enumerate", v], []⟩) (fun _ R s => G s.heap ∧
      R (.ok (.ret (.ref (s.heap.push o).objs.size))) { s with heap := (s.heap.push o).push { cls := .type "enumerate", data := .fields #[.none, .bool false, .ref s.heap.objs.size, rawInt 0, .none, .none] } }) :=
  .of_wp fun prog w A R s h => by
    obtain ⟨hp, g, d, tk, os⟩ := s
    obtain ⟨h1, h⟩ := h
    have hsub := sub_enumerate
    have q1 : ∀ {A' : Around} {E : Value → Shared → Prop} {Q : Value → Shared → Prop}, Q (.ref hp.objs.size) ⟨hp.push o, g, d, tk, os⟩ → wpAny (model prog w) A' (pyIter v) Q E ⟨hp, g, d, tk, os⟩ :=
      fun q => B.iter prog w _ _ ⟨hp, g, d, tk, os⟩ _ h1 q
    wp_walk using q1
    refine wpAny_stack_any fun st => wpAny_pure ?_
    split
    · rename_i c _ _ _ _ _
      cases (c == Value.type "enumerate")
      · wp_walk using q1
        exact ⟨_, rfl, h⟩
      · wp_walk using q1
        exact ⟨_, rfl, h⟩
    · wp_walk using q1
      exact ⟨_, rfl, h⟩
theorem call_enum1 {prog : Program} {w : World} {A : Around} {E : Value → Shared → Prop} {s : Shared} {v : Value} {o : Obj} {G : Heap → Prop} {Q : Value → Shared → Prop} (B : Begins v o G) (h1 : G s.heap)
    (h : ∀ h', IsEnum h' (s.heap.objs.size + 1) s.heap.objs.size 0 .none → h'.get? s.heap.objs.size = some o → h'.objs.size = s.heap.objs.size + 2 →
      (∀ b o, s.heap.get? b = some o → h'.get? b = some o) → Q (.ref (s.heap.objs.size + 1)) { s with heap := h' }) : wpAny (model prog w) A (call (.type "enumerate") [v]) Q E s := by
  refine callType_new F.called_enumerate (by decide) (F.typeCall_enumerate_1 _) (F.newCall_enumerate_1 _) (fun obj => F.args_object_init_2 obj _) F.entry_enumerate_new (meets_enum1 B) ⟨h1, ?_⟩
  have hz : (s.heap.push o).objs.size = s.heap.objs.size + 1 := Heap.size_push ..
  show _ ∧ _
  rw [hz]
  have he := Heap.get?_push_size (s.heap.push o) (o := { cls := .type "enumerate", data := .fields #[.none, .bool false, .ref s.heap.objs.size, rawInt 0, .none, .none] }) rfl
  rw [hz] at he
  exact ⟨⟨_, he, rfl⟩, h _ he (Heap.get?_push_of_some _ (Heap.get?_push_size _ B.free)) (by rw [Heap.size_push, hz]) fun b o x => Heap.get?_push_of_some _ (Heap.get?_push_of_some _ x)⟩
/-- the tuple at a, each item in a new pair -/
def Itet (K : PySem.W.Frag) (a : Addr) (xs : List V) : It :=
  ⟨fun i H => SqT K H a xs ∧ i < xs.length, fun i H v H' => ∃ T x, v = .ref T ∧ H T = none ∧ H' = upd H T (.tup [.int (i : Nat), x]) ∧ xs[i]? = some x, fun i H => SqT K H a xs ∧ xs.length ≤ i⟩
theorem turn_enumT {P : Program} {w : World} {K : PySem.W.Frag} {elts : List Expr} {kk : Nat} {tpos : Pos} (a e it : Addr) (xs : List V) (hta : a ≠ it) :
    Turn P w K (.Tuple elts kk tpos) (Itet K a xs) [e, it] e (fun i h => (∃ old, IsEnum h e it ((i : Nat) : Int) old) ∧ h.IsTupleIter it a i ∧ e ≠ it ∧ i ≤ xs.length) where
  mem := by simp
  obj := fun i h st b hb => by
    obtain ⟨⟨old, he⟩, ⟨o, ho, hc, hd⟩, _⟩ := st
    have e' : b = e ∨ b = it := by simpa using hb
    rcases e' with z | z
    · rw [z]
      exact ⟨_, he, fun v q => nomatch q⟩
    · rw [z]
      exact ⟨o, ho, fun v q => by rw [hd] at q; cases q⟩
  keep := fun i h h' st k => let ⟨⟨old, he⟩, hi, hne, hn⟩ := st; ⟨⟨old, k e (by simp) _ he⟩, hi.at fun o q => k it (by simp) o q, hne, hn⟩
  item := by
    intro X hP hw hK hc i pins s σ H E I hf st hg
    subst hP hw hK
    obtain ⟨⟨old, he⟩, hit, hne, hn⟩ := st
    obtain ⟨hq, hlt⟩ := hg
    obtain ⟨its, rv, p, hz⟩ := I.tuple hq
    have p' : s.heap.IsTuple a its.toArray := p
    have hl := rv.length
    have hel : e < s.heap.objs.size := Heap.lt_size he
    have hil : it < s.heap.objs.size := by
      obtain ⟨_, q, _⟩ := hit
      exact Heap.lt_size q
    have hea : e ≠ a := fun q => by
      obtain ⟨o, ho, hc', _⟩ := p'
      rw [← q, he] at ho
      cases ho
      have z : Value.type "enumerate" = Value.type "tuple" := hc'
      injection z with z
      exact absurd z (by decide)
    have D := Draws.tuple (prog := X.prog) (w := X.w) (A := X.A.in1) (I.ok.hd hc) it a hta its.toArray
    refine wpAny_pyNext_enum_itemD D he ⟨hit, p'⟩ (by simpa [← hl] using hlt) hne (by simp [hne, hea]) fun u h' tk hu ho hs' hT hsz hk => ?_
    obtain ⟨x, hx, ru⟩ : ∃ x, xs[i]? = some x ∧ RelV x u := by
      obtain ⟨u', hu', r'⟩ := rv.get (List.getElem?_eq_getElem hlt)
      have e1 : its[i]? = some u := by simpa using hu
      rw [e1] at hu'
      cases hu'
      exact ⟨_, List.getElem?_eq_getElem hlt, r'⟩
    refine ⟨_, rfl, wpAny_letOwnedTupleGo_enum (s := { s with heap := h', toks := tk + 1 }) ho fun h'' he' sb => ?_⟩
    have hT2 : h''.get? s.heap.objs.size = some { cls := .type "tuple", data := .seq #[.int i tk, u] } := (sb.2 _ (Nat.ne_of_gt hel)).trans hT
    have new : ObjOk X.prog X.w (upd H s.heap.objs.size (.tup [.int (i : Nat), x])) h'' s.heap.objs.size (.tup [.int (i : Nat), x]) :=
      ⟨by show 2 ≤ sizeLine; decide, [.int i tk, u], .cons ⟨_, rfl⟩ (.cons ru .nil), ⟨_, hT2, rfl, _, rfl⟩⟩
    have I1 : Inv X pins σ (upd H s.heap.objs.size (.tup [.int (i : Nat), x])) { s with heap := h'', toks := tk + 1 } :=
      I.turnedNew (ch := [e, it]) (fun b ob hb q => (sb.2 b (fun z => hb (by simp [z]))).trans (hk b ob (fun z => hb (by simp [z])) (fun z => hb (by simp [z])) q)) hf (Nat.le_refl _) new
    refine ⟨.ref s.heap.objs.size, _, I1, rfl, ⟨_, x, rfl, I.hok.fresh (Nat.le_refl _), rfl, hx⟩, ⟨⟨u, ?_⟩, hs'.1.at fun o q => (sb.2 it (Ne.symm hne)).trans q, hne, hlt⟩, fun b hb => ?_⟩
    · have e1 : ((i + 1 : Nat) : Int) = (i : Int) + 1 := by omega
      rw [e1]
      exact he'
    · have hb' : b < s.heap.objs.size := by
        have e' : b = e ∨ b = it := by simpa using hb
        rcases e' with z | z
        · rw [z]
          exact hel
        · rw [z]
          exact hil
      rw [upd_ne (Nat.ne_of_lt hb')]
      exact (hf b hb).1
  done := by
    intro X hP hw hK hc i pins s σ H E I hf st hg
    subst hP hw hK
    obtain ⟨⟨old, he⟩, hit, hne, hn⟩ := st
    obtain ⟨hq, hx⟩ := hg
    obtain ⟨its, rv, p, hz⟩ := I.tuple hq
    have p' : s.heap.IsTuple a its.toArray := p
    obtain ⟨f0, f1, f2, f3, f4, f5⟩ := hf it (by simp)
    have hl := rv.length
    have hi : i = its.toArray.size := by
      simp
      omega
    subst hi
    have D := Draws.tuple (prog := X.prog) (w := X.w) (A := X.A.in1) (I.ok.hd hc) it a hta its.toArray
    exact wpAny_pyNext_enum_endD D he ⟨hit, p'⟩ fun h' eb => ⟨rfl, I.turned (t' := s.toks) (fun b o hb q => eb b o hb q) f0 f1 f3 f4 f5⟩
  self := fun A i s Q E st h => let ⟨⟨_, he⟩, _⟩ := st; wpAny_pyIter_enum he h
def iEnumT (K : PySem.W.Frag) (ta : TA) : TI := fun σ H R => ta σ H fun vs H1 => ∃ a xs, vs = [.ref a] ∧ SqT K H1 a xs ∧ R (Itet K a xs) H1
theorem pi_enumT {X : Cx} {e : Expr} {ta : TA} {p pos tpos : Pos} {elts : List Expr} {kk : Nat} (hg : Gl X "enumerate") (hm : X.mg "enumerate" = none) (ha : PA X [e] ta) (hs : starEach [e] X.env = [(false, eval e X.env)] := by rfl) :
    PI X (.Tuple elts kk tpos) (.Call (.Name "enumerate" p) [e] [] pos) (iEnumT X.K ta) := by
  refine ⟨fun pins s σ H R I h => ?_⟩
  refine PyProof.Rows.Call_ (ld_blt I hg hm PyProof.Rows.boot_enumerate (PyProof.Rows.callWith_type1 (thn (ha.run pos pins s σ H _ I h) fun us s1 ⟨vs, H1, I1, r1, q1⟩ => ?_) hs rfl))
  obtain ⟨a, xs, ex, hq, q⟩ := q1
  subst ex
  cases r1 with
  | cons r rr =>
    cases rr
    cases r
    obtain ⟨its, rv, p', hz⟩ := I1.tuple hq
    have p2 : s1.heap.IsTuple a its.toArray := p'
    refine call_enum1 (begins_tuple a its.toArray) p2 fun h' he hit hsz hk => wpAny_pyIter_enum he ?_
    have I2 : Inv X pins σ H1 { s1 with heap := h' } := I1.kept (t' := s1.toks) hk
    have hal : a < s1.heap.objs.size := by
      obtain ⟨_, q, _⟩ := p2
      exact Heap.lt_size q
    refine ⟨s1.heap.objs.size + 1, [s1.heap.objs.size + 1, s1.heap.objs.size], _, _, H1, rfl, I2, turn_enumT a (s1.heap.objs.size + 1) s1.heap.objs.size xs (Nat.ne_of_lt hal), ⟨⟨.none, he⟩, ⟨_, hit, rfl, rfl⟩, Nat.succ_ne_self _, Nat.zero_le _⟩, fun b hb => ?_, q⟩
    have e' : b = s1.heap.objs.size + 1 ∨ b = s1.heap.objs.size := by simpa using hb
    have hle : s1.heap.objs.size ≤ b := by
      rcases e' with z | z
      · rw [z]
        exact Nat.le_add_right _ _
      · rw [z]
        exact Nat.le_refl _
    exact I1.fpOk hle (I1.hok.fresh hle)
/-! ### the turns of such loops -/
section
variable {σ : St} {H : Hp} {n b c : St → Hp → Prop} {r : VK} {Q : VK} {K : PySem.W.Frag}
theorem r_each {J : It} {g : TG} {tb : TS} (N : Nat) (Pv : Nat → St → Hp → Prop) (h0 : Pv 0 σ H)
    (hs : ∀ (i : Nat) σ H, i < N → Pv i σ H → J.go i H ∧ ∀ x H', J.yld i H x H' → g x σ H' fun σ2 H2 => tb ⟨Pv (i + 1), r, n, Pv (i + 1)⟩ σ2 H2) (hd : ∀ σ H, Pv N σ H → J.stop N H ∧ n σ H) :
    ∃ W : Nat → Nat → St → Hp → Prop, (∃ m, W 0 m σ H) ∧ ∀ i m σ H, W i m σ H →
    (J.stop i H ∧ n σ H) ∨ (J.go i H ∧ ∃ N : St → Hp → Prop, (∀ σ' H', N σ' H' → ∃ m', m' < m ∧ W (i + 1) m' σ' H') ∧ ∀ x H', J.yld i H x H' → g x σ H' fun σ2 H2 => tb ⟨N, r, n, N⟩ σ2 H2) := by
  refine ⟨fun i m σ H => i ≤ N ∧ m = N - i ∧ Pv i σ H, ⟨N, Nat.zero_le _, rfl, h0⟩, fun i m σ H ⟨hi, hm, hp⟩ => ?_⟩
  by_cases c : i < N
  · obtain ⟨h1, h2⟩ := hs i σ H c hp
    exact .inr ⟨h1, Pv (i + 1), fun σ' H' q => ⟨N - (i + 1), by omega, c, rfl, q⟩, h2⟩
  · have e : i = N := by omega
    subst e
    exact .inl (hd σ H hp)
/-- a for over a list -/
theorem r_eachL {g : TG} {tb : TS} {a : Addr} {xs : List V} (Pv : Nat → St → Hp → Prop) (h0 : Pv 0 σ H) (hl : ∀ i σ H, Pv i σ H → SqL K H a xs)
    (hs : ∀ (i : Nat) x σ H, xs[i]? = some x → Pv i σ H → g x σ H fun σ2 H2 => tb ⟨Pv (i + 1), r, n, Pv (i + 1)⟩ σ2 H2) (hd : ∀ σ H, Pv xs.length σ H → n σ H) :
    ∃ W : Nat → Nat → St → Hp → Prop, (∃ m, W 0 m σ H) ∧ ∀ i m σ H, W i m σ H →
    ((Itl K a).stop i H ∧ n σ H) ∨ ((Itl K a).go i H ∧ ∃ N : St → Hp → Prop, (∀ σ' H', N σ' H' → ∃ m', m' < m ∧ W (i + 1) m' σ' H') ∧ ∀ x H', (Itl K a).yld i H x H' → g x σ H' fun σ2 H2 => tb ⟨N, r, n, N⟩ σ2 H2) := by
  refine r_each xs.length Pv h0 (fun i σ H hi p => ⟨⟨xs, xs[i], hl i σ H p, List.getElem?_eq_getElem hi⟩, ?_⟩) fun σ H p => ⟨⟨xs, hl _ σ H p, Nat.le_refl _⟩, hd σ H p⟩
  rintro x _ ⟨rfl, e⟩
  exact hs i x σ _ (e xs (hl i σ _ p)) p
/-- .. a tuple -/
theorem r_eachT {g : TG} {tb : TS} {a : Addr} {xs : List V} (Pv : Nat → St → Hp → Prop) (h0 : Pv 0 σ H) (hl : ∀ i σ H, Pv i σ H → SqT K H a xs)
    (hs : ∀ (i : Nat) x σ H, xs[i]? = some x → Pv i σ H → g x σ H fun σ2 H2 => tb ⟨Pv (i + 1), r, n, Pv (i + 1)⟩ σ2 H2) (hd : ∀ σ H, Pv xs.length σ H → n σ H) :
    ∃ W : Nat → Nat → St → Hp → Prop, (∃ m, W 0 m σ H) ∧ ∀ i m σ H, W i m σ H →
    ((Itt K a).stop i H ∧ n σ H) ∨ ((Itt K a).go i H ∧ ∃ N : St → Hp → Prop, (∀ σ' H', N σ' H' → ∃ m', m' < m ∧ W (i + 1) m' σ' H') ∧ ∀ x H', (Itt K a).yld i H x H' → g x σ H' fun σ2 H2 => tb ⟨N, r, n, N⟩ σ2 H2) := by
  refine r_each xs.length Pv h0 (fun i σ H hi p => ⟨⟨xs, xs[i], hl i σ H p, List.getElem?_eq_getElem hi⟩, ?_⟩) fun σ H p => ⟨⟨xs, hl _ σ H p, Nat.le_refl _⟩, hd σ H p⟩
  rintro x _ ⟨rfl, e⟩
  exact hs i x σ _ (e xs (hl i σ _ p)) p
/-- .. with the numbers of the turns -/
theorem r_eachE {g : TG} {tb : TS} {a : Addr} {xs : List V} (Pv : Nat → St → Hp → Prop) (h0 : Pv 0 σ H) (hl : ∀ i σ H, Pv i σ H → SqL K H a xs)
    (hs : ∀ (i : Nat) x σ H T, xs[i]? = some x → Pv i σ H → H T = none → g (.ref T) σ (upd H T (.tup [.int (i : Nat), x])) fun σ2 H2 => tb ⟨Pv (i + 1), r, n, Pv (i + 1)⟩ σ2 H2) (hd : ∀ σ H, Pv xs.length σ H → n σ H) :
    ∃ W : Nat → Nat → St → Hp → Prop, (∃ m, W 0 m σ H) ∧ ∀ i m σ H, W i m σ H →
    ((Ite K a).stop i H ∧ n σ H) ∨ ((Ite K a).go i H ∧ ∃ N : St → Hp → Prop, (∀ σ' H', N σ' H' → ∃ m', m' < m ∧ W (i + 1) m' σ' H') ∧ ∀ x H', (Ite K a).yld i H x H' → g x σ H' fun σ2 H2 => tb ⟨N, r, n, N⟩ σ2 H2) := by
  refine r_each xs.length Pv h0 (fun i σ H hi p => ⟨⟨xs, xs[i], hl i σ H p, List.getElem?_eq_getElem hi⟩, ?_⟩) fun σ H p => ⟨⟨xs, hl _ σ H p, Nat.le_refl _⟩, hd σ H p⟩
  rintro _ _ ⟨T, x, rfl, hT, rfl, e⟩
  exact hs i x σ _ T (e xs (hl i σ _ p)) p hT
theorem r_eachET {g : TG} {tb : TS} {a : Addr} {xs : List V} (Pv : Nat → St → Hp → Prop) (h0 : Pv 0 σ H) (hl : ∀ i σ H, Pv i σ H → SqT K H a xs)
    (hs : ∀ (i : Nat) x σ H T, xs[i]? = some x → Pv i σ H → H T = none → g (.ref T) σ (upd H T (.tup [.int (i : Nat), x])) fun σ2 H2 => tb ⟨Pv (i + 1), r, n, Pv (i + 1)⟩ σ2 H2) (hd : ∀ σ H, Pv xs.length σ H → n σ H) :
    ∃ W : Nat → Nat → St → Hp → Prop, (∃ m, W 0 m σ H) ∧ ∀ i m σ H, W i m σ H →
    ((Itet K a xs).stop i H ∧ n σ H) ∨ ((Itet K a xs).go i H ∧ ∃ N : St → Hp → Prop, (∀ σ' H', N σ' H' → ∃ m', m' < m ∧ W (i + 1) m' σ' H') ∧ ∀ x H', (Itet K a xs).yld i H x H' → g x σ H' fun σ2 H2 => tb ⟨N, r, n, N⟩ σ2 H2) := by
  refine r_each xs.length Pv h0 (fun i σ H hi p => ⟨⟨hl i σ H p, hi⟩, ?_⟩) fun σ H p => ⟨⟨hl _ σ H p, Nat.le_refl _⟩, hd σ H p⟩
  rintro _ _ ⟨T, x, rfl, hT, rfl, e⟩
  exact hs i x σ _ T e p hT
/-- .. of range(i, j, c) -/
theorem r_eachR {g : TG} {tb : TS} {i0 j0 c0 : Int} (k : Nat) (hc : RgC i0 j0 c0 k) (Pv : Nat → St → Hp → Prop) (h0 : Pv 0 σ H)
    (hs : ∀ (i : Nat) σ H, i < k → Pv i σ H → g (.int (i0 + i * c0)) σ H fun σ2 H2 => tb ⟨Pv (i + 1), r, n, Pv (i + 1)⟩ σ2 H2) (hd : ∀ σ H, Pv k σ H → n σ H) :
    RgC i0 j0 c0 k ∧ ∃ W : Nat → Nat → St → Hp → Prop, (∃ m, W 0 m σ H) ∧ ∀ i m σ H, W i m σ H →
    ((Itc i0 c0 k).stop i H ∧ n σ H) ∨ ((Itc i0 c0 k).go i H ∧ ∃ N : St → Hp → Prop, (∀ σ' H', N σ' H' → ∃ m', m' < m ∧ W (i + 1) m' σ' H') ∧ ∀ x H', (Itc i0 c0 k).yld i H x H' → g x σ H' fun σ2 H2 => tb ⟨N, r, n, N⟩ σ2 H2) := by
  refine ⟨hc, r_each k Pv h0 (fun i σ H hi p => ⟨hi, ?_⟩) fun σ H p => ⟨Nat.le_refl _, hd σ H p⟩⟩
  rintro _ _ ⟨rfl, rfl⟩
  exact hs i σ _ hi p
theorem r_rng2 {ta : TA} {R : It → Hp → Prop} (h : ta σ H fun vs H1 => ∃ i j : Int, vs = [.int i, .int j] ∧ (-(2 ^ 62) ≤ i ∧ i < 2 ^ 62 ∧ -(2 ^ 62) ≤ j ∧ j < 2 ^ 62) ∧ R (Itr i (j - i).toNat) H1) : iRng2 ta σ H R := h
theorem r_rng3 {ta : TA} {R : It → Hp → Prop} (h : ta σ H fun vs H1 => ∃ (i j c : Int) (n : Nat), vs = [.int i, .int j, .int c] ∧ RgC i j c n ∧ R (Itc i c n) H1) : iRng3 ta σ H R := h
theorem r_itL {tl : TE} {R : It → Hp → Prop} (h : tl σ H fun x H1 => ∃ a, x = .ref a ∧ (∃ xs, SqL K H1 a xs) ∧ R (Itl K a) H1) : iList K tl σ H R := h
theorem r_itT {tl : TE} {R : It → Hp → Prop} (h : tl σ H fun x H1 => ∃ a, x = .ref a ∧ (∃ xs, SqT K H1 a xs) ∧ R (Itt K a) H1) : iTup K tl σ H R := h
theorem r_itE {ta : TA} {R : It → Hp → Prop} (h : ta σ H fun vs H1 => ∃ a xs, vs = [.ref a] ∧ SqL K H1 a xs ∧ R (Ite K a) H1) : iEnum K ta σ H R := h
theorem r_itET {ta : TA} {R : It → Hp → Prop} (h : ta σ H fun vs H1 => ∃ a xs, vs = [.ref a] ∧ SqT K H1 a xs ∧ R (Itet K a xs) H1) : iEnumT K ta σ H R := h
theorem r_eqB {i j : Bool} (h : Q (.bl (decide (i = j))) H) : rEq (.bl i) (.bl j) H Q := by
  have e : decide (V.bl i = V.bl j) = decide (i = j) := by simp
  exact ⟨rfl, by rw [e]; exact h⟩
theorem r_neB {i j : Bool} (h : Q (.bl (!decide (i = j))) H) : rNe (.bl i) (.bl j) H Q := by
  have e : decide (V.bl i = V.bl j) = decide (i = j) := by simp
  exact ⟨rfl, by rw [e]; exact h⟩
end
/-- an if whose test is known -/
theorem r_ifB {σ : St} {H : Hp} {D : Ends} {tt : TT} {t u : TS} (b : Bool) (ht : ∀ R : Bool → Hp → Prop, R b H → tt σ H R) (h : if b = true then t D σ H else u D σ H) : tIfS tt t u D σ H := ht _ h

/-! ### an attribute as a target among others -/
section
variable {X : Cx} {o : Expr} {ta : TE} {f : Str} {pos : Pos}
def gFld (K : PySem.W.Frag) (ta : TE) (f : Str) : TG := fun v σ H R => ta σ H fun x H1 => ∃ a C dx fs, x = .ref a ∧ H1 a = some (.ins C dx fs) ∧ Cls K C ∧ NoAttr K C f ∧ fs.length < 1000 ∧ R σ (upd H1 a (.ins C dx (putF f v fs)))
theorem pg_fld (ha : PE X o ta) : PG X (.Attribute o f pos) (gFld X.K ta f) := by
  refine ⟨fun pins s σ H v u Q I r h => ?_⟩
  rw [assign_Attribute]
  refine wpAny_bind (wpAny_holding (thn (ha.run pins s σ H _ I h) fun ov s2 ⟨x, H2, I2, rx, a, C, dx, fs, ex, ea, c, n, l, q2⟩ => ?_))
  subst ex
  obtain rfl : ov = Value.ref a := rx
  refine wpAny_bind (wpAny_standAt (wpAny_bind (wpAny_holding ?_)))
  exact setattr_ok I2 ea c n l r fun s3 I3 => wpAny_release ⟨σ, _, I3, q2⟩
end

local macro_rules | `(tactic| walk_at "rv") => `(tactic| ((with_reducible apply r_var); (· rfl)))
local macro_rules | `(tactic| walk_at "rd1") => `(tactic| first
  | (with_reducible refine r_seq ?_)
  | (with_reducible refine r_asg ?_)
  | (with_reducible refine r_name ?_)
  | ((with_reducible apply r_var); (· rfl))
  | (with_reducible refine r_c ?_)
  | (with_reducible refine r_op ?_)
  | (with_reducible refine r_I0 ?_)
  | (with_reducible refine r_eqI ?_)
  | (with_reducible refine r_neI ?_)
  | (with_reducible refine r_eqS ?_)
  | (with_reducible refine r_neS ?_)
  | (with_reducible refine r_cons ?_)
  | (with_reducible refine r_nil ?_)
  | (with_reducible refine r_if ?_)
  | (with_reducible refine r_test ?_)
  | (with_reducible refine r_B ?_)
  | (with_reducible refine r_bl ?_)
  | (with_reducible refine r_ret ?_)
  | (with_reducible refine r_drop ?_)
  | (with_reducible refine r_un ?_)
  | (with_reducible refine r_U ?_)
  | (with_reducible refine r_CB ?_)
  | (with_reducible refine r_call ?_)
  | (with_reducible refine r_retN ?_)
  | (with_reducible refine r_next ?_)
  | (with_reducible refine r_brk ?_)
  | (with_reducible refine r_ifE ?_)
  | (with_reducible refine r_and ?_)
  | (with_reducible refine r_or ?_)
  | (with_reducible refine r_not ?_)
  | (with_reducible refine r_andV ?_)
  | (with_reducible refine r_orV ?_)
  | (with_reducible refine r_notV ?_)
  | (with_reducible refine r_chain ?_)
  | (with_reducible refine r_iteF ?_)
  | (with_reducible refine r_iteT ?_)
  | (with_reducible refine r_iteNT ?_)
  | (with_reducible refine r_iteNF ?_)
  | ((with_reducible apply r_I); (· first | decide | exact ⟨by decide, by decide⟩ | exact .inr ⟨by decide, by decide⟩ | exact .inl ⟨by decide, by decide⟩ | exact ⟨by decide, by decide, by decide⟩))
  | (with_reducible refine r_bm ?_)
  | (with_reducible refine r_bm0 ?_)
  | (with_reducible refine r_sub ?_)
  | (with_reducible refine r_yes ?_)
  | (with_reducible refine r_fld ?_)
  | (with_reducible refine r_sfld ?_)
  | (with_reducible refine r_meth ?_)
  | (with_reducible refine r_prop ?_)
  | (with_reducible refine r_make ?_)
  | (with_reducible refine r_gcons ?_)
  | (with_reducible refine r_gnil ?_)
  | (with_reducible refine r_rfl ?_)
  | (with_reducible refine r_for ?_)
  | (with_reducible refine r_rng1 ?_)
  | (with_reducible refine r_int1 ?_)
  | (with_reducible refine r_abs ?_)
  | (with_reducible refine r_tup ?_)
  | (with_reducible refine r_lst ?_))
local macro_rules | `(tactic| walk_at "rd") => `(tactic| repeat (walk_at "rd1"))
local macro_rules | `(tactic| walk_at "ri1") => `(tactic| first
  | (with_reducible refine r_seq ?_)
  | (with_reducible refine r_asg ?_)
  | (with_reducible refine r_name ?_)
  | ((with_reducible apply r_var); (· rfl))
  | (with_reducible refine r_c ?_)
  | (with_reducible refine r_op ?_)
  | (with_reducible refine r_I0 ?_)
  | (with_reducible refine r_eqI ?_)
  | (with_reducible refine r_neI ?_)
  | (with_reducible refine r_eqS ?_)
  | (with_reducible refine r_neS ?_)
  | (with_reducible refine r_cons ?_)
  | (with_reducible refine r_nil ?_)
  | (with_reducible refine r_test ?_)
  | (with_reducible refine r_B ?_)
  | (with_reducible refine r_bl ?_)
  | (with_reducible refine r_ret ?_)
  | (with_reducible refine r_drop ?_)
  | (with_reducible refine r_un ?_)
  | (with_reducible refine r_U ?_)
  | (with_reducible refine r_CB ?_)
  | (with_reducible refine r_call ?_)
  | (with_reducible refine r_retN ?_)
  | (with_reducible refine r_next ?_)
  | (with_reducible refine r_brk ?_)
  | (with_reducible refine r_ifE ?_)
  | (with_reducible refine r_and ?_)
  | (with_reducible refine r_or ?_)
  | (with_reducible refine r_not ?_)
  | (with_reducible refine r_andV ?_)
  | (with_reducible refine r_orV ?_)
  | (with_reducible refine r_notV ?_)
  | (with_reducible refine r_chain ?_)
  | (with_reducible refine r_iteF ?_)
  | (with_reducible refine r_iteT ?_)
  | (with_reducible refine r_iteNT ?_)
  | (with_reducible refine r_iteNF ?_)
  | ((with_reducible apply r_I); (· first | decide | exact ⟨by decide, by decide⟩ | exact .inr ⟨by decide, by decide⟩ | exact .inl ⟨by decide, by decide⟩ | exact ⟨by decide, by decide, by decide⟩))
  | (with_reducible refine r_bm ?_)
  | (with_reducible refine r_bm0 ?_)
  | (with_reducible refine r_sub ?_)
  | (with_reducible refine r_yes ?_)
  | (with_reducible refine r_fld ?_)
  | (with_reducible refine r_sfld ?_)
  | (with_reducible refine r_meth ?_)
  | (with_reducible refine r_prop ?_)
  | (with_reducible refine r_make ?_)
  | (with_reducible refine r_gcons ?_)
  | (with_reducible refine r_gnil ?_)
  | (with_reducible refine r_rfl ?_)
  | (with_reducible refine r_for ?_)
  | (with_reducible refine r_rng1 ?_)
  | (with_reducible refine r_int1 ?_)
  | (with_reducible refine r_abs ?_)
  | (with_reducible refine r_tup ?_)
  | (with_reducible refine r_lst ?_))
local macro_rules | `(tactic| walk_at "ri") => `(tactic| repeat (walk_at "ri1"))

abbrev C_Doubled (K : Frg) : Addr := He.ga K "Doubled"
abbrev C_Unwritable (K : Frg) : Addr := He.ga K "Unwritable"
abbrev C_Unreadable (K : Frg) : Addr := He.ga K "Unreadable"
abbrev C_AlikeError (K : Frg) : Addr := He.ga K "AlikeError"
abbrev C_Begun (K : Frg) : Addr := He.ga K "Begun"
abbrev C_Counted (K : Frg) : Addr := He.ga K "Counted"
abbrev C_Base64 (K : Frg) : Addr := He.ga K "Base64"
abbrev C_SexpToken (K : Frg) : Addr := He.ga K "SexpToken"
abbrev C_SexpHex (K : Frg) : Addr := He.ga K "SexpHex"
abbrev C_SexpBase64 (K : Frg) : Addr := He.ga K "SexpBase64"
abbrev C_SexpLoose (K : Frg) : Addr := He.ga K "SexpLoose"
abbrev C_Nest (K : Frg) : Addr := He.ga K "Nest"
abbrev C_SexpEscape (K : Frg) : Addr := He.ga K "SexpEscape"
abbrev C_SexpQuoted (K : Frg) : Addr := He.ga K "SexpQuoted"
abbrev C_SexpScanner (K : Frg) : Addr := He.ga K "SexpScanner"
abbrev C_Frame (K : Frg) : Addr := He.ga K "Frame"
abbrev C_Builder (K : Frg) : Addr := He.ga K "Builder"
structure Nm (w : World) (K : Frg) (mg : Str → Option Value) : Prop where
  tuple : mg "tuple" = none
  sorted : mg "sorted" = none
  divmod : mg "divmod" = none
  list : mg "list" = none
  all : mg "all" = none
  len : mg "len" = none
  abs : mg "abs" = none
  range : mg "range" = none
  int : mg "int" = none
  isinstance : mg "isinstance" = none
  bool : mg "bool" = none
  str : mg "str" = none
  ord : mg "ord" = none
  g_ZERO : ∃ u, mg "ZERO" = some u ∧ RelV (.int 48) u
  g_NINE : ∃ u, mg "NINE" = some u ∧ RelV (.int 57) u
  g_COLON : ∃ u, mg "COLON" = some u ∧ RelV (.int 58) u
  g_ROWS : ∃ v u, mg "ROWS" = some u ∧ RelV v u ∧ ∀ H, Dp K H v (.tuple [.tuple [.int 65, .int 90, .int 0], .tuple [.int 97, .int 122, .int 26], .tuple [.int 48, .int 57, .int 52], .tuple [.int 43, .int 43, .int 62], .tuple [.int 47, .int 47, .int 63]])
  g_PAD : ∃ u, mg "PAD" = some u ∧ RelV (.int 61) u
  g_TOKEN_MARKS : ∃ v u, mg "TOKEN_MARKS" = some u ∧ RelV v u ∧ ∀ H, Dp K H v (.tuple [.int 45, .int 46, .int 47, .int 95, .int 58, .int 42, .int 43, .int 61])
  g_WHITESPACE : ∃ v u, mg "WHITESPACE" = some u ∧ RelV v u ∧ ∀ H, Dp K H v (.tuple [.int 32, .int 9, .int 10, .int 11, .int 12, .int 13])
  g_HASH : ∃ u, mg "HASH" = some u ∧ RelV (.int 35) u
  g_BAR : ∃ u, mg "BAR" = some u ∧ RelV (.int 124) u
  g_FIRST_PLAIN : ∃ u, mg "FIRST_PLAIN" = some u ∧ RelV (.int 32) u
  g_LAST_PLAIN : ∃ u, mg "LAST_PLAIN" = some u ∧ RelV (.int 126) u
  g_QUOTE : ∃ u, mg "QUOTE" = some u ∧ RelV (.int 34) u
  g_BACKSLASH : ∃ u, mg "BACKSLASH" = some u ∧ RelV (.int 92) u
  g_CLOSES : ∃ u, mg "CLOSES" = some u ∧ RelV (.int 41) u
  g_OPENS : ∃ u, mg "OPENS" = some u ∧ RelV (.int 40) u
  g_SPACE : ∃ u, mg "SPACE" = some u ∧ RelV (.int 32) u
  g_DEEPEST : ∃ u, mg "DEEPEST" = some u ∧ RelV (.int 24) u
  g_SMALL_X : ∃ u, mg "SMALL_X" = some u ∧ RelV (.int 120) u
  g_SHORT_ESCAPES : ∃ v u, mg "SHORT_ESCAPES" = some u ∧ RelV v u ∧ ∃ a, v = .ref a ∧ TabAt K w a (([.inl 98, .inl 116, .inl 118, .inl 110, .inl 102, .inl 114, .inl 34, .inl 39, .inl 92, .inl 63] : List Key).zip ([.int 8, .int 9, .int 11, .int 10, .int 12, .int 13, .int 34, .int 39, .int 92, .int 63] : List V))
  g_LINE_FEED : ∃ u, mg "LINE_FEED" = some u ∧ RelV (.int 10) u
  g_Doubled : mg "Doubled" = some (.ref (C_Doubled K))
  x_Doubled : ExcK K (C_Doubled K) (meAd "AlikeError" "__init__" K) "what"
  g_Unwritable : mg "Unwritable" = some (.ref (C_Unwritable K))
  x_Unwritable : ExcK K (C_Unwritable K) (meAd "AlikeError" "__init__" K) "what"
  g_Unreadable : mg "Unreadable" = some (.ref (C_Unreadable K))
  x_Unreadable : ExcK K (C_Unreadable K) (meAd "AlikeError" "__init__" K) "what"
  g_AlikeError : mg "AlikeError" = some (.ref (C_AlikeError K))
  x_AlikeError : ExcK K (C_AlikeError K) (meAd "AlikeError" "__init__" K) "what"
  y_Unwritable : IsxC K (C_Unwritable K)
  e_Unwritable_AlikeError : PySem.W.exmOne K (.ref (C_Unwritable K)) (.ref (C_AlikeError K)) = some true
  i_Unwritable_Unreadable : PySem.W.kitOne K (.ref (C_Unwritable K)) (.ref (C_Unreadable K)) = some false
  i_Unwritable_Doubled : PySem.W.kitOne K (.ref (C_Unwritable K)) (.ref (C_Doubled K)) = some false
  i_Unwritable_Unwritable : PySem.W.kitOne K (.ref (C_Unwritable K)) (.ref (C_Unwritable K)) = some true
  f_is_lacking : mg "is_lacking" = some (.ref (glAd "is_lacking" K))
  cl_Begun : Cls K (C_Begun K)
  g_Begun : mg "Begun" = some (.ref (C_Begun K))
  mk_Begun : Mk K (C_Begun K) (meAd "Begun" "__init__" K)
  na_Begun__many : NoAttr K (C_Begun K) "_many"
  me_Begun_note : Meth K (C_Begun K) "note" (meAd "Begun" "note" K)
  me_Begun__count : Meth K (C_Begun K) "_count" (meAd "Begun" "_count" K)
  cl_Counted : Cls K (C_Counted K)
  g_Counted : mg "Counted" = some (.ref (C_Counted K))
  mk_Counted : Mk K (C_Counted K) (meAd "Counted" "__init__" K)
  na_Counted_is_done : NoAttr K (C_Counted K) "is_done"
  na_Counted_can_end : NoAttr K (C_Counted K) "can_end"
  na_Counted_has_begun : NoAttr K (C_Counted K) "has_begun"
  na_Counted_octets : NoAttr K (C_Counted K) "octets"
  na_Counted__missing : NoAttr K (C_Counted K) "_missing"
  me_Counted_take : Meth K (C_Counted K) "take" (meAd "Counted" "take" K)
  me_Counted__take_in_count : Meth K (C_Counted K) "_take_in_count" (meAd "Counted" "_take_in_count" K)
  me_Counted_leaf : Meth K (C_Counted K) "leaf" (meAd "Counted" "leaf" K)
  cl_Base64 : Cls K (C_Base64 K)
  g_Base64 : mg "Base64" = some (.ref (C_Base64 K))
  mk_Base64 : Mk K (C_Base64 K) (meAd "Base64" "__init__" K)
  na_Base64_octets : NoAttr K (C_Base64 K) "octets"
  na_Base64__digits : NoAttr K (C_Base64 K) "_digits"
  na_Base64__pads : NoAttr K (C_Base64 K) "_pads"
  na_Base64__rest : NoAttr K (C_Base64 K) "_rest"
  pr_Base64_is_whole : PropOf K (C_Base64 K) "is_whole" (He.ma K (C_Base64 K) "is_whole") (prAd "Base64" "is_whole" K)
  me_Base64_take : Meth K (C_Base64 K) "take" (meAd "Base64" "take" K)
  me_Base64__take_pad : Meth K (C_Base64 K) "_take_pad" (meAd "Base64" "_take_pad" K)
  me_Base64__take_digit : Meth K (C_Base64 K) "_take_digit" (meAd "Base64" "_take_digit" K)
  cl_SexpToken : Cls K (C_SexpToken K)
  g_SexpToken : mg "SexpToken" = some (.ref (C_SexpToken K))
  mk_SexpToken : Mk K (C_SexpToken K) (meAd "SexpToken" "__init__" K)
  na_SexpToken_is_done : NoAttr K (C_SexpToken K) "is_done"
  na_SexpToken_can_end : NoAttr K (C_SexpToken K) "can_end"
  na_SexpToken__octets : NoAttr K (C_SexpToken K) "_octets"
  me_SexpToken_take : Meth K (C_SexpToken K) "take" (meAd "SexpToken" "take" K)
  me_SexpToken_leaf : Meth K (C_SexpToken K) "leaf" (meAd "SexpToken" "leaf" K)
  cl_SexpHex : Cls K (C_SexpHex K)
  g_SexpHex : mg "SexpHex" = some (.ref (C_SexpHex K))
  mk_SexpHex : Mk K (C_SexpHex K) (meAd "SexpHex" "__init__" K)
  na_SexpHex_is_done : NoAttr K (C_SexpHex K) "is_done"
  na_SexpHex_can_end : NoAttr K (C_SexpHex K) "can_end"
  na_SexpHex__octets : NoAttr K (C_SexpHex K) "_octets"
  na_SexpHex__first : NoAttr K (C_SexpHex K) "_first"
  me_SexpHex_take : Meth K (C_SexpHex K) "take" (meAd "SexpHex" "take" K)
  me_SexpHex__take_digit : Meth K (C_SexpHex K) "_take_digit" (meAd "SexpHex" "_take_digit" K)
  me_SexpHex_leaf : Meth K (C_SexpHex K) "leaf" (meAd "SexpHex" "leaf" K)
  cl_SexpBase64 : Cls K (C_SexpBase64 K)
  g_SexpBase64 : mg "SexpBase64" = some (.ref (C_SexpBase64 K))
  mk_SexpBase64 : Mk K (C_SexpBase64 K) (meAd "SexpBase64" "__init__" K)
  na_SexpBase64_is_done : NoAttr K (C_SexpBase64 K) "is_done"
  na_SexpBase64_can_end : NoAttr K (C_SexpBase64 K) "can_end"
  na_SexpBase64__base64 : NoAttr K (C_SexpBase64 K) "_base64"
  me_SexpBase64_take : Meth K (C_SexpBase64 K) "take" (meAd "SexpBase64" "take" K)
  me_SexpBase64_leaf : Meth K (C_SexpBase64 K) "leaf" (meAd "SexpBase64" "leaf" K)
  cl_SexpLoose : Cls K (C_SexpLoose K)
  g_SexpLoose : mg "SexpLoose" = some (.ref (C_SexpLoose K))
  mk_SexpLoose : Mk K (C_SexpLoose K) (meAd "SexpLoose" "__init__" K)
  na_SexpLoose__begun : NoAttr K (C_SexpLoose K) "_begun"
  na_SexpLoose__are_empty : NoAttr K (C_SexpLoose K) "_are_empty"
  me_SexpLoose_take : Meth K (C_SexpLoose K) "take" (meAd "SexpLoose" "take" K)
  me_SexpLoose__before_item : Meth K (C_SexpLoose K) "_before_item" (meAd "SexpLoose" "_before_item" K)
  cl_Nest : Cls K (C_Nest K)
  g_Nest : mg "Nest" = some (.ref (C_Nest K))
  mk_Nest : Mk K (C_Nest K) (meAd "Nest" "__init__" K)
  na_Nest__levels : NoAttr K (C_Nest K) "_levels"
  me_Nest_inner : Meth K (C_Nest K) "inner" (meAd "Nest" "inner" K)
  me_Nest_grow : Meth K (C_Nest K) "grow" (meAd "Nest" "grow" K)
  me_Nest_shrink : Meth K (C_Nest K) "shrink" (meAd "Nest" "shrink" K)
  me_Nest_note_key : Meth K (C_Nest K) "note_key" (meAd "Nest" "note_key" K)
  cl_SexpEscape : Cls K (C_SexpEscape K)
  g_SexpEscape : mg "SexpEscape" = some (.ref (C_SexpEscape K))
  mk_SexpEscape : Mk K (C_SexpEscape K) (meAd "SexpEscape" "__init__" K)
  na_SexpEscape_is_done : NoAttr K (C_SexpEscape K) "is_done"
  na_SexpEscape_octet : NoAttr K (C_SexpEscape K) "octet"
  na_SexpEscape__base : NoAttr K (C_SexpEscape K) "_base"
  na_SexpEscape__missing : NoAttr K (C_SexpEscape K) "_missing"
  na_SexpEscape__worth : NoAttr K (C_SexpEscape K) "_worth"
  me_SexpEscape_take : Meth K (C_SexpEscape K) "take" (meAd "SexpEscape" "take" K)
  me_SexpEscape__take_first : Meth K (C_SexpEscape K) "_take_first" (meAd "SexpEscape" "_take_first" K)
  me_SexpEscape__take_digit : Meth K (C_SexpEscape K) "_take_digit" (meAd "SexpEscape" "_take_digit" K)
  cl_SexpQuoted : Cls K (C_SexpQuoted K)
  g_SexpQuoted : mg "SexpQuoted" = some (.ref (C_SexpQuoted K))
  mk_SexpQuoted : Mk K (C_SexpQuoted K) (meAd "SexpQuoted" "__init__" K)
  na_SexpQuoted_is_done : NoAttr K (C_SexpQuoted K) "is_done"
  na_SexpQuoted_can_end : NoAttr K (C_SexpQuoted K) "can_end"
  na_SexpQuoted__octets : NoAttr K (C_SexpQuoted K) "_octets"
  na_SexpQuoted__escape : NoAttr K (C_SexpQuoted K) "_escape"
  me_SexpQuoted_take : Meth K (C_SexpQuoted K) "take" (meAd "SexpQuoted" "take" K)
  me_SexpQuoted__take_in_escape : Meth K (C_SexpQuoted K) "_take_in_escape" (meAd "SexpQuoted" "_take_in_escape" K)
  me_SexpQuoted_leaf : Meth K (C_SexpQuoted K) "leaf" (meAd "SexpQuoted" "leaf" K)
  cl_SexpScanner : Cls K (C_SexpScanner K)
  g_SexpScanner : mg "SexpScanner" = some (.ref (C_SexpScanner K))
  mk_SexpScanner : Mk K (C_SexpScanner K) (meAd "SexpScanner" "__init__" K)
  na_SexpScanner__place : NoAttr K (C_SexpScanner K) "_place"
  na_SexpScanner__is_over : NoAttr K (C_SexpScanner K) "_is_over"
  na_SexpScanner__nest : NoAttr K (C_SexpScanner K) "_nest"
  na_SexpScanner__atom : NoAttr K (C_SexpScanner K) "_atom"
  me_SexpScanner_step : Meth K (C_SexpScanner K) "step" (meAd "SexpScanner" "step" K)
  me_SexpScanner_end : Meth K (C_SexpScanner K) "end" (meAd "SexpScanner" "end" K)
  me_SexpScanner__go_on : Meth K (C_SexpScanner K) "_go_on" (meAd "SexpScanner" "_go_on" K)
  me_SexpScanner__end_atom : Meth K (C_SexpScanner K) "_end_atom" (meAd "SexpScanner" "_end_atom" K)
  me_SexpScanner__end_value : Meth K (C_SexpScanner K) "_end_value" (meAd "SexpScanner" "_end_value" K)
  me_SexpScanner__take_mark : Meth K (C_SexpScanner K) "_take_mark" (meAd "SexpScanner" "_take_mark" K)
  me_SexpScanner__close : Meth K (C_SexpScanner K) "_close" (meAd "SexpScanner" "_close" K)
  cl_Frame : Cls K (C_Frame K)
  g_Frame : mg "Frame" = some (.ref (C_Frame K))
  mk_Frame : Mk K (C_Frame K) (meAd "Frame" "__init__" K)
  na_Frame_kind : NoAttr K (C_Frame K) "kind"
  na_Frame_key : NoAttr K (C_Frame K) "key"
  na_Frame_inside : NoAttr K (C_Frame K) "inside"
  me_Frame_put : Meth K (C_Frame K) "put" (meAd "Frame" "put" K)
  me_Frame_built : Meth K (C_Frame K) "built" (meAd "Frame" "built" K)
  cl_Builder : Cls K (C_Builder K)
  g_Builder : mg "Builder" = some (.ref (C_Builder K))
  mk_Builder : Mk K (C_Builder K) (meAd "Builder" "__init__" K)
  na_Builder_is_done : NoAttr K (C_Builder K) "is_done"
  na_Builder_value : NoAttr K (C_Builder K) "value"
  na_Builder__frames : NoAttr K (C_Builder K) "_frames"
  me_Builder_take : Meth K (C_Builder K) "take" (meAd "Builder" "take" K)
  me_Builder__put : Meth K (C_Builder K) "_put" (meAd "Builder" "_put" K)
  dig : DigK K
def fs_Begun (x0 : V) : List (Str × V) := [("_many", x0)]
theorem lk_Begun__many {x0 : V} : (fs_Begun x0).lookup ("_many" : Str) = some x0 := by
  unfold fs_Begun
  rw [lk_hit]
theorem pt_Begun__many {x0 y : V} : putF "_many" y (fs_Begun x0) = fs_Begun y := by
  unfold fs_Begun
  rw [pf_hit]
theorem in_Begun__many {x0 : V} : putF "_many" x0 ([] : List (Str × V)) = ([("_many", x0)] : List (Str × V)) := by
  rw [pf_nil]
theorem no_Begun_note {x0 : V} : (fs_Begun x0).lookup ("note" : Str) = none := by
  unfold fs_Begun
  rw [lk_miss (by decide +kernel)] <;> rfl
theorem no_Begun__count {x0 : V} : (fs_Begun x0).lookup ("_count" : Str) = none := by
  unfold fs_Begun
  rw [lk_miss (by decide +kernel)] <;> rfl
theorem few_Begun {x0 : V} : (fs_Begun x0).length < 1000 := by
  show 1 < 1000
  decide
def fs_Counted (x0 x1 x2 x3 x4 : V) : List (Str × V) := [("is_done", x0), ("can_end", x1), ("has_begun", x2), ("octets", x3), ("_missing", x4)]
theorem lk_Counted_is_done {x0 x1 x2 x3 x4 : V} : (fs_Counted x0 x1 x2 x3 x4).lookup ("is_done" : Str) = some x0 := by
  unfold fs_Counted
  rw [lk_hit]
theorem pt_Counted_is_done {x0 x1 x2 x3 x4 y : V} : putF "is_done" y (fs_Counted x0 x1 x2 x3 x4) = fs_Counted y x1 x2 x3 x4 := by
  unfold fs_Counted
  rw [pf_hit]
theorem in_Counted_is_done {x0 : V} : putF "is_done" x0 ([] : List (Str × V)) = ([("is_done", x0)] : List (Str × V)) := by
  rw [pf_nil]
theorem lk_Counted_can_end {x0 x1 x2 x3 x4 : V} : (fs_Counted x0 x1 x2 x3 x4).lookup ("can_end" : Str) = some x1 := by
  unfold fs_Counted
  rw [lk_miss (by decide +kernel), lk_hit]
theorem pt_Counted_can_end {x0 x1 x2 x3 x4 y : V} : putF "can_end" y (fs_Counted x0 x1 x2 x3 x4) = fs_Counted x0 y x2 x3 x4 := by
  unfold fs_Counted
  rw [pf_miss (by decide +kernel), pf_hit]
theorem in_Counted_can_end {x0 x1 : V} : putF "can_end" x1 ([("is_done", x0)] : List (Str × V)) = ([("is_done", x0), ("can_end", x1)] : List (Str × V)) := by
  rw [pf_miss (by decide +kernel), pf_nil]
theorem lk_Counted_has_begun {x0 x1 x2 x3 x4 : V} : (fs_Counted x0 x1 x2 x3 x4).lookup ("has_begun" : Str) = some x2 := by
  unfold fs_Counted
  rw [lk_miss (by decide +kernel), lk_miss (by decide +kernel), lk_hit]
theorem pt_Counted_has_begun {x0 x1 x2 x3 x4 y : V} : putF "has_begun" y (fs_Counted x0 x1 x2 x3 x4) = fs_Counted x0 x1 y x3 x4 := by
  unfold fs_Counted
  rw [pf_miss (by decide +kernel), pf_miss (by decide +kernel), pf_hit]
theorem in_Counted_has_begun {x0 x1 x2 : V} : putF "has_begun" x2 ([("is_done", x0), ("can_end", x1)] : List (Str × V)) = ([("is_done", x0), ("can_end", x1), ("has_begun", x2)] : List (Str × V)) := by
  rw [pf_miss (by decide +kernel), pf_miss (by decide +kernel), pf_nil]
theorem lk_Counted_octets {x0 x1 x2 x3 x4 : V} : (fs_Counted x0 x1 x2 x3 x4).lookup ("octets" : Str) = some x3 := by
  unfold fs_Counted
  rw [lk_miss (by decide +kernel), lk_miss (by decide +kernel), lk_miss (by decide +kernel), lk_hit]
theorem pt_Counted_octets {x0 x1 x2 x3 x4 y : V} : putF "octets" y (fs_Counted x0 x1 x2 x3 x4) = fs_Counted x0 x1 x2 y x4 := by
  unfold fs_Counted
  rw [pf_miss (by decide +kernel), pf_miss (by decide +kernel), pf_miss (by decide +kernel), pf_hit]
theorem in_Counted_octets {x0 x1 x2 x3 : V} : putF "octets" x3 ([("is_done", x0), ("can_end", x1), ("has_begun", x2)] : List (Str × V)) = ([("is_done", x0), ("can_end", x1), ("has_begun", x2), ("octets", x3)] : List (Str × V)) := by
  rw [pf_miss (by decide +kernel), pf_miss (by decide +kernel), pf_miss (by decide +kernel), pf_nil]
theorem lk_Counted__missing {x0 x1 x2 x3 x4 : V} : (fs_Counted x0 x1 x2 x3 x4).lookup ("_missing" : Str) = some x4 := by
  unfold fs_Counted
  rw [lk_miss (by decide +kernel), lk_miss (by decide +kernel), lk_miss (by decide +kernel), lk_miss (by decide +kernel), lk_hit]
theorem pt_Counted__missing {x0 x1 x2 x3 x4 y : V} : putF "_missing" y (fs_Counted x0 x1 x2 x3 x4) = fs_Counted x0 x1 x2 x3 y := by
  unfold fs_Counted
  rw [pf_miss (by decide +kernel), pf_miss (by decide +kernel), pf_miss (by decide +kernel), pf_miss (by decide +kernel), pf_hit]
theorem in_Counted__missing {x0 x1 x2 x3 x4 : V} : putF "_missing" x4 ([("is_done", x0), ("can_end", x1), ("has_begun", x2), ("octets", x3)] : List (Str × V)) = ([("is_done", x0), ("can_end", x1), ("has_begun", x2), ("octets", x3), ("_missing", x4)] : List (Str × V)) := by
  rw [pf_miss (by decide +kernel), pf_miss (by decide +kernel), pf_miss (by decide +kernel), pf_miss (by decide +kernel), pf_nil]
theorem no_Counted_take {x0 x1 x2 x3 x4 : V} : (fs_Counted x0 x1 x2 x3 x4).lookup ("take" : Str) = none := by
  unfold fs_Counted
  rw [lk_miss (by decide +kernel), lk_miss (by decide +kernel), lk_miss (by decide +kernel), lk_miss (by decide +kernel), lk_miss (by decide +kernel)] <;> rfl
theorem no_Counted__take_in_count {x0 x1 x2 x3 x4 : V} : (fs_Counted x0 x1 x2 x3 x4).lookup ("_take_in_count" : Str) = none := by
  unfold fs_Counted
  rw [lk_miss (by decide +kernel), lk_miss (by decide +kernel), lk_miss (by decide +kernel), lk_miss (by decide +kernel), lk_miss (by decide +kernel)] <;> rfl
theorem no_Counted_leaf {x0 x1 x2 x3 x4 : V} : (fs_Counted x0 x1 x2 x3 x4).lookup ("leaf" : Str) = none := by
  unfold fs_Counted
  rw [lk_miss (by decide +kernel), lk_miss (by decide +kernel), lk_miss (by decide +kernel), lk_miss (by decide +kernel), lk_miss (by decide +kernel)] <;> rfl
theorem few_Counted {x0 x1 x2 x3 x4 : V} : (fs_Counted x0 x1 x2 x3 x4).length < 1000 := by
  show 5 < 1000
  decide
def fs_Base64 (x0 x1 x2 x3 : V) : List (Str × V) := [("octets", x0), ("_digits", x1), ("_pads", x2), ("_rest", x3)]
theorem lk_Base64_octets {x0 x1 x2 x3 : V} : (fs_Base64 x0 x1 x2 x3).lookup ("octets" : Str) = some x0 := by
  unfold fs_Base64
  rw [lk_hit]
theorem pt_Base64_octets {x0 x1 x2 x3 y : V} : putF "octets" y (fs_Base64 x0 x1 x2 x3) = fs_Base64 y x1 x2 x3 := by
  unfold fs_Base64
  rw [pf_hit]
theorem in_Base64_octets {x0 : V} : putF "octets" x0 ([] : List (Str × V)) = ([("octets", x0)] : List (Str × V)) := by
  rw [pf_nil]
theorem lk_Base64__digits {x0 x1 x2 x3 : V} : (fs_Base64 x0 x1 x2 x3).lookup ("_digits" : Str) = some x1 := by
  unfold fs_Base64
  rw [lk_miss (by decide +kernel), lk_hit]
theorem pt_Base64__digits {x0 x1 x2 x3 y : V} : putF "_digits" y (fs_Base64 x0 x1 x2 x3) = fs_Base64 x0 y x2 x3 := by
  unfold fs_Base64
  rw [pf_miss (by decide +kernel), pf_hit]
theorem in_Base64__digits {x0 x1 : V} : putF "_digits" x1 ([("octets", x0)] : List (Str × V)) = ([("octets", x0), ("_digits", x1)] : List (Str × V)) := by
  rw [pf_miss (by decide +kernel), pf_nil]
theorem lk_Base64__pads {x0 x1 x2 x3 : V} : (fs_Base64 x0 x1 x2 x3).lookup ("_pads" : Str) = some x2 := by
  unfold fs_Base64
  rw [lk_miss (by decide +kernel), lk_miss (by decide +kernel), lk_hit]
theorem pt_Base64__pads {x0 x1 x2 x3 y : V} : putF "_pads" y (fs_Base64 x0 x1 x2 x3) = fs_Base64 x0 x1 y x3 := by
  unfold fs_Base64
  rw [pf_miss (by decide +kernel), pf_miss (by decide +kernel), pf_hit]
theorem in_Base64__pads {x0 x1 x2 : V} : putF "_pads" x2 ([("octets", x0), ("_digits", x1)] : List (Str × V)) = ([("octets", x0), ("_digits", x1), ("_pads", x2)] : List (Str × V)) := by
  rw [pf_miss (by decide +kernel), pf_miss (by decide +kernel), pf_nil]
theorem lk_Base64__rest {x0 x1 x2 x3 : V} : (fs_Base64 x0 x1 x2 x3).lookup ("_rest" : Str) = some x3 := by
  unfold fs_Base64
  rw [lk_miss (by decide +kernel), lk_miss (by decide +kernel), lk_miss (by decide +kernel), lk_hit]
theorem pt_Base64__rest {x0 x1 x2 x3 y : V} : putF "_rest" y (fs_Base64 x0 x1 x2 x3) = fs_Base64 x0 x1 x2 y := by
  unfold fs_Base64
  rw [pf_miss (by decide +kernel), pf_miss (by decide +kernel), pf_miss (by decide +kernel), pf_hit]
theorem in_Base64__rest {x0 x1 x2 x3 : V} : putF "_rest" x3 ([("octets", x0), ("_digits", x1), ("_pads", x2)] : List (Str × V)) = ([("octets", x0), ("_digits", x1), ("_pads", x2), ("_rest", x3)] : List (Str × V)) := by
  rw [pf_miss (by decide +kernel), pf_miss (by decide +kernel), pf_miss (by decide +kernel), pf_nil]
theorem no_Base64_take {x0 x1 x2 x3 : V} : (fs_Base64 x0 x1 x2 x3).lookup ("take" : Str) = none := by
  unfold fs_Base64
  rw [lk_miss (by decide +kernel), lk_miss (by decide +kernel), lk_miss (by decide +kernel), lk_miss (by decide +kernel)] <;> rfl
theorem no_Base64__take_pad {x0 x1 x2 x3 : V} : (fs_Base64 x0 x1 x2 x3).lookup ("_take_pad" : Str) = none := by
  unfold fs_Base64
  rw [lk_miss (by decide +kernel), lk_miss (by decide +kernel), lk_miss (by decide +kernel), lk_miss (by decide +kernel)] <;> rfl
theorem no_Base64__take_digit {x0 x1 x2 x3 : V} : (fs_Base64 x0 x1 x2 x3).lookup ("_take_digit" : Str) = none := by
  unfold fs_Base64
  rw [lk_miss (by decide +kernel), lk_miss (by decide +kernel), lk_miss (by decide +kernel), lk_miss (by decide +kernel)] <;> rfl
theorem few_Base64 {x0 x1 x2 x3 : V} : (fs_Base64 x0 x1 x2 x3).length < 1000 := by
  show 4 < 1000
  decide
def fs_SexpToken (x0 x1 x2 : V) : List (Str × V) := [("is_done", x0), ("can_end", x1), ("_octets", x2)]
theorem lk_SexpToken_is_done {x0 x1 x2 : V} : (fs_SexpToken x0 x1 x2).lookup ("is_done" : Str) = some x0 := by
  unfold fs_SexpToken
  rw [lk_hit]
theorem pt_SexpToken_is_done {x0 x1 x2 y : V} : putF "is_done" y (fs_SexpToken x0 x1 x2) = fs_SexpToken y x1 x2 := by
  unfold fs_SexpToken
  rw [pf_hit]
theorem in_SexpToken_is_done {x0 : V} : putF "is_done" x0 ([] : List (Str × V)) = ([("is_done", x0)] : List (Str × V)) := by
  rw [pf_nil]
theorem lk_SexpToken_can_end {x0 x1 x2 : V} : (fs_SexpToken x0 x1 x2).lookup ("can_end" : Str) = some x1 := by
  unfold fs_SexpToken
  rw [lk_miss (by decide +kernel), lk_hit]
theorem pt_SexpToken_can_end {x0 x1 x2 y : V} : putF "can_end" y (fs_SexpToken x0 x1 x2) = fs_SexpToken x0 y x2 := by
  unfold fs_SexpToken
  rw [pf_miss (by decide +kernel), pf_hit]
theorem in_SexpToken_can_end {x0 x1 : V} : putF "can_end" x1 ([("is_done", x0)] : List (Str × V)) = ([("is_done", x0), ("can_end", x1)] : List (Str × V)) := by
  rw [pf_miss (by decide +kernel), pf_nil]
theorem lk_SexpToken__octets {x0 x1 x2 : V} : (fs_SexpToken x0 x1 x2).lookup ("_octets" : Str) = some x2 := by
  unfold fs_SexpToken
  rw [lk_miss (by decide +kernel), lk_miss (by decide +kernel), lk_hit]
theorem pt_SexpToken__octets {x0 x1 x2 y : V} : putF "_octets" y (fs_SexpToken x0 x1 x2) = fs_SexpToken x0 x1 y := by
  unfold fs_SexpToken
  rw [pf_miss (by decide +kernel), pf_miss (by decide +kernel), pf_hit]
theorem in_SexpToken__octets {x0 x1 x2 : V} : putF "_octets" x2 ([("is_done", x0), ("can_end", x1)] : List (Str × V)) = ([("is_done", x0), ("can_end", x1), ("_octets", x2)] : List (Str × V)) := by
  rw [pf_miss (by decide +kernel), pf_miss (by decide +kernel), pf_nil]
theorem no_SexpToken_take {x0 x1 x2 : V} : (fs_SexpToken x0 x1 x2).lookup ("take" : Str) = none := by
  unfold fs_SexpToken
  rw [lk_miss (by decide +kernel), lk_miss (by decide +kernel), lk_miss (by decide +kernel)] <;> rfl
theorem no_SexpToken_leaf {x0 x1 x2 : V} : (fs_SexpToken x0 x1 x2).lookup ("leaf" : Str) = none := by
  unfold fs_SexpToken
  rw [lk_miss (by decide +kernel), lk_miss (by decide +kernel), lk_miss (by decide +kernel)] <;> rfl
theorem few_SexpToken {x0 x1 x2 : V} : (fs_SexpToken x0 x1 x2).length < 1000 := by
  show 3 < 1000
  decide
def fs_SexpHex (x0 x1 x2 x3 : V) : List (Str × V) := [("is_done", x0), ("can_end", x1), ("_octets", x2), ("_first", x3)]
theorem lk_SexpHex_is_done {x0 x1 x2 x3 : V} : (fs_SexpHex x0 x1 x2 x3).lookup ("is_done" : Str) = some x0 := by
  unfold fs_SexpHex
  rw [lk_hit]
theorem pt_SexpHex_is_done {x0 x1 x2 x3 y : V} : putF "is_done" y (fs_SexpHex x0 x1 x2 x3) = fs_SexpHex y x1 x2 x3 := by
  unfold fs_SexpHex
  rw [pf_hit]
theorem in_SexpHex_is_done {x0 : V} : putF "is_done" x0 ([] : List (Str × V)) = ([("is_done", x0)] : List (Str × V)) := by
  rw [pf_nil]
theorem lk_SexpHex_can_end {x0 x1 x2 x3 : V} : (fs_SexpHex x0 x1 x2 x3).lookup ("can_end" : Str) = some x1 := by
  unfold fs_SexpHex
  rw [lk_miss (by decide +kernel), lk_hit]
theorem pt_SexpHex_can_end {x0 x1 x2 x3 y : V} : putF "can_end" y (fs_SexpHex x0 x1 x2 x3) = fs_SexpHex x0 y x2 x3 := by
  unfold fs_SexpHex
  rw [pf_miss (by decide +kernel), pf_hit]
theorem in_SexpHex_can_end {x0 x1 : V} : putF "can_end" x1 ([("is_done", x0)] : List (Str × V)) = ([("is_done", x0), ("can_end", x1)] : List (Str × V)) := by
  rw [pf_miss (by decide +kernel), pf_nil]
theorem lk_SexpHex__octets {x0 x1 x2 x3 : V} : (fs_SexpHex x0 x1 x2 x3).lookup ("_octets" : Str) = some x2 := by
  unfold fs_SexpHex
  rw [lk_miss (by decide +kernel), lk_miss (by decide +kernel), lk_hit]
theorem pt_SexpHex__octets {x0 x1 x2 x3 y : V} : putF "_octets" y (fs_SexpHex x0 x1 x2 x3) = fs_SexpHex x0 x1 y x3 := by
  unfold fs_SexpHex
  rw [pf_miss (by decide +kernel), pf_miss (by decide +kernel), pf_hit]
theorem in_SexpHex__octets {x0 x1 x2 : V} : putF "_octets" x2 ([("is_done", x0), ("can_end", x1)] : List (Str × V)) = ([("is_done", x0), ("can_end", x1), ("_octets", x2)] : List (Str × V)) := by
  rw [pf_miss (by decide +kernel), pf_miss (by decide +kernel), pf_nil]
theorem lk_SexpHex__first {x0 x1 x2 x3 : V} : (fs_SexpHex x0 x1 x2 x3).lookup ("_first" : Str) = some x3 := by
  unfold fs_SexpHex
  rw [lk_miss (by decide +kernel), lk_miss (by decide +kernel), lk_miss (by decide +kernel), lk_hit]
theorem pt_SexpHex__first {x0 x1 x2 x3 y : V} : putF "_first" y (fs_SexpHex x0 x1 x2 x3) = fs_SexpHex x0 x1 x2 y := by
  unfold fs_SexpHex
  rw [pf_miss (by decide +kernel), pf_miss (by decide +kernel), pf_miss (by decide +kernel), pf_hit]
theorem in_SexpHex__first {x0 x1 x2 x3 : V} : putF "_first" x3 ([("is_done", x0), ("can_end", x1), ("_octets", x2)] : List (Str × V)) = ([("is_done", x0), ("can_end", x1), ("_octets", x2), ("_first", x3)] : List (Str × V)) := by
  rw [pf_miss (by decide +kernel), pf_miss (by decide +kernel), pf_miss (by decide +kernel), pf_nil]
theorem no_SexpHex_take {x0 x1 x2 x3 : V} : (fs_SexpHex x0 x1 x2 x3).lookup ("take" : Str) = none := by
  unfold fs_SexpHex
  rw [lk_miss (by decide +kernel), lk_miss (by decide +kernel), lk_miss (by decide +kernel), lk_miss (by decide +kernel)] <;> rfl
theorem no_SexpHex__take_digit {x0 x1 x2 x3 : V} : (fs_SexpHex x0 x1 x2 x3).lookup ("_take_digit" : Str) = none := by
  unfold fs_SexpHex
  rw [lk_miss (by decide +kernel), lk_miss (by decide +kernel), lk_miss (by decide +kernel), lk_miss (by decide +kernel)] <;> rfl
theorem no_SexpHex_leaf {x0 x1 x2 x3 : V} : (fs_SexpHex x0 x1 x2 x3).lookup ("leaf" : Str) = none := by
  unfold fs_SexpHex
  rw [lk_miss (by decide +kernel), lk_miss (by decide +kernel), lk_miss (by decide +kernel), lk_miss (by decide +kernel)] <;> rfl
theorem few_SexpHex {x0 x1 x2 x3 : V} : (fs_SexpHex x0 x1 x2 x3).length < 1000 := by
  show 4 < 1000
  decide
def fs_SexpBase64 (x0 x1 x2 : V) : List (Str × V) := [("is_done", x0), ("can_end", x1), ("_base64", x2)]
theorem lk_SexpBase64_is_done {x0 x1 x2 : V} : (fs_SexpBase64 x0 x1 x2).lookup ("is_done" : Str) = some x0 := by
  unfold fs_SexpBase64
  rw [lk_hit]
theorem pt_SexpBase64_is_done {x0 x1 x2 y : V} : putF "is_done" y (fs_SexpBase64 x0 x1 x2) = fs_SexpBase64 y x1 x2 := by
  unfold fs_SexpBase64
  rw [pf_hit]
theorem in_SexpBase64_is_done {x0 : V} : putF "is_done" x0 ([] : List (Str × V)) = ([("is_done", x0)] : List (Str × V)) := by
  rw [pf_nil]
theorem lk_SexpBase64_can_end {x0 x1 x2 : V} : (fs_SexpBase64 x0 x1 x2).lookup ("can_end" : Str) = some x1 := by
  unfold fs_SexpBase64
  rw [lk_miss (by decide +kernel), lk_hit]
theorem pt_SexpBase64_can_end {x0 x1 x2 y : V} : putF "can_end" y (fs_SexpBase64 x0 x1 x2) = fs_SexpBase64 x0 y x2 := by
  unfold fs_SexpBase64
  rw [pf_miss (by decide +kernel), pf_hit]
theorem in_SexpBase64_can_end {x0 x1 : V} : putF "can_end" x1 ([("is_done", x0)] : List (Str × V)) = ([("is_done", x0), ("can_end", x1)] : List (Str × V)) := by
  rw [pf_miss (by decide +kernel), pf_nil]
theorem lk_SexpBase64__base64 {x0 x1 x2 : V} : (fs_SexpBase64 x0 x1 x2).lookup ("_base64" : Str) = some x2 := by
  unfold fs_SexpBase64
  rw [lk_miss (by decide +kernel), lk_miss (by decide +kernel), lk_hit]
theorem pt_SexpBase64__base64 {x0 x1 x2 y : V} : putF "_base64" y (fs_SexpBase64 x0 x1 x2) = fs_SexpBase64 x0 x1 y := by
  unfold fs_SexpBase64
  rw [pf_miss (by decide +kernel), pf_miss (by decide +kernel), pf_hit]
theorem in_SexpBase64__base64 {x0 x1 x2 : V} : putF "_base64" x2 ([("is_done", x0), ("can_end", x1)] : List (Str × V)) = ([("is_done", x0), ("can_end", x1), ("_base64", x2)] : List (Str × V)) := by
  rw [pf_miss (by decide +kernel), pf_miss (by decide +kernel), pf_nil]
theorem no_SexpBase64_take {x0 x1 x2 : V} : (fs_SexpBase64 x0 x1 x2).lookup ("take" : Str) = none := by
  unfold fs_SexpBase64
  rw [lk_miss (by decide +kernel), lk_miss (by decide +kernel), lk_miss (by decide +kernel)] <;> rfl
theorem no_SexpBase64_leaf {x0 x1 x2 : V} : (fs_SexpBase64 x0 x1 x2).lookup ("leaf" : Str) = none := by
  unfold fs_SexpBase64
  rw [lk_miss (by decide +kernel), lk_miss (by decide +kernel), lk_miss (by decide +kernel)] <;> rfl
theorem few_SexpBase64 {x0 x1 x2 : V} : (fs_SexpBase64 x0 x1 x2).length < 1000 := by
  show 3 < 1000
  decide
def fs_SexpLoose (x0 x1 : V) : List (Str × V) := [("_begun", x0), ("_are_empty", x1)]
theorem lk_SexpLoose__begun {x0 x1 : V} : (fs_SexpLoose x0 x1).lookup ("_begun" : Str) = some x0 := by
  unfold fs_SexpLoose
  rw [lk_hit]
theorem pt_SexpLoose__begun {x0 x1 y : V} : putF "_begun" y (fs_SexpLoose x0 x1) = fs_SexpLoose y x1 := by
  unfold fs_SexpLoose
  rw [pf_hit]
theorem in_SexpLoose__begun {x0 : V} : putF "_begun" x0 ([] : List (Str × V)) = ([("_begun", x0)] : List (Str × V)) := by
  rw [pf_nil]
theorem lk_SexpLoose__are_empty {x0 x1 : V} : (fs_SexpLoose x0 x1).lookup ("_are_empty" : Str) = some x1 := by
  unfold fs_SexpLoose
  rw [lk_miss (by decide +kernel), lk_hit]
theorem pt_SexpLoose__are_empty {x0 x1 y : V} : putF "_are_empty" y (fs_SexpLoose x0 x1) = fs_SexpLoose x0 y := by
  unfold fs_SexpLoose
  rw [pf_miss (by decide +kernel), pf_hit]
theorem in_SexpLoose__are_empty {x0 x1 : V} : putF "_are_empty" x1 ([("_begun", x0)] : List (Str × V)) = ([("_begun", x0), ("_are_empty", x1)] : List (Str × V)) := by
  rw [pf_miss (by decide +kernel), pf_nil]
theorem no_SexpLoose_take {x0 x1 : V} : (fs_SexpLoose x0 x1).lookup ("take" : Str) = none := by
  unfold fs_SexpLoose
  rw [lk_miss (by decide +kernel), lk_miss (by decide +kernel)] <;> rfl
theorem no_SexpLoose__before_item {x0 x1 : V} : (fs_SexpLoose x0 x1).lookup ("_before_item" : Str) = none := by
  unfold fs_SexpLoose
  rw [lk_miss (by decide +kernel), lk_miss (by decide +kernel)] <;> rfl
theorem few_SexpLoose {x0 x1 : V} : (fs_SexpLoose x0 x1).length < 1000 := by
  show 2 < 1000
  decide
def fs_Nest (x0 : V) : List (Str × V) := [("_levels", x0)]
theorem lk_Nest__levels {x0 : V} : (fs_Nest x0).lookup ("_levels" : Str) = some x0 := by
  unfold fs_Nest
  rw [lk_hit]
theorem pt_Nest__levels {x0 y : V} : putF "_levels" y (fs_Nest x0) = fs_Nest y := by
  unfold fs_Nest
  rw [pf_hit]
theorem in_Nest__levels {x0 : V} : putF "_levels" x0 ([] : List (Str × V)) = ([("_levels", x0)] : List (Str × V)) := by
  rw [pf_nil]
theorem no_Nest_inner {x0 : V} : (fs_Nest x0).lookup ("inner" : Str) = none := by
  unfold fs_Nest
  rw [lk_miss (by decide +kernel)] <;> rfl
theorem no_Nest_grow {x0 : V} : (fs_Nest x0).lookup ("grow" : Str) = none := by
  unfold fs_Nest
  rw [lk_miss (by decide +kernel)] <;> rfl
theorem no_Nest_shrink {x0 : V} : (fs_Nest x0).lookup ("shrink" : Str) = none := by
  unfold fs_Nest
  rw [lk_miss (by decide +kernel)] <;> rfl
theorem no_Nest_note_key {x0 : V} : (fs_Nest x0).lookup ("note_key" : Str) = none := by
  unfold fs_Nest
  rw [lk_miss (by decide +kernel)] <;> rfl
theorem few_Nest {x0 : V} : (fs_Nest x0).length < 1000 := by
  show 1 < 1000
  decide
def fs_SexpEscape (x0 x1 x2 x3 x4 : V) : List (Str × V) := [("is_done", x0), ("octet", x1), ("_base", x2), ("_missing", x3), ("_worth", x4)]
theorem lk_SexpEscape_is_done {x0 x1 x2 x3 x4 : V} : (fs_SexpEscape x0 x1 x2 x3 x4).lookup ("is_done" : Str) = some x0 := by
  unfold fs_SexpEscape
  rw [lk_hit]
theorem pt_SexpEscape_is_done {x0 x1 x2 x3 x4 y : V} : putF "is_done" y (fs_SexpEscape x0 x1 x2 x3 x4) = fs_SexpEscape y x1 x2 x3 x4 := by
  unfold fs_SexpEscape
  rw [pf_hit]
theorem in_SexpEscape_is_done {x0 : V} : putF "is_done" x0 ([] : List (Str × V)) = ([("is_done", x0)] : List (Str × V)) := by
  rw [pf_nil]
theorem lk_SexpEscape_octet {x0 x1 x2 x3 x4 : V} : (fs_SexpEscape x0 x1 x2 x3 x4).lookup ("octet" : Str) = some x1 := by
  unfold fs_SexpEscape
  rw [lk_miss (by decide +kernel), lk_hit]
theorem pt_SexpEscape_octet {x0 x1 x2 x3 x4 y : V} : putF "octet" y (fs_SexpEscape x0 x1 x2 x3 x4) = fs_SexpEscape x0 y x2 x3 x4 := by
  unfold fs_SexpEscape
  rw [pf_miss (by decide +kernel), pf_hit]
theorem in_SexpEscape_octet {x0 x1 : V} : putF "octet" x1 ([("is_done", x0)] : List (Str × V)) = ([("is_done", x0), ("octet", x1)] : List (Str × V)) := by
  rw [pf_miss (by decide +kernel), pf_nil]
theorem lk_SexpEscape__base {x0 x1 x2 x3 x4 : V} : (fs_SexpEscape x0 x1 x2 x3 x4).lookup ("_base" : Str) = some x2 := by
  unfold fs_SexpEscape
  rw [lk_miss (by decide +kernel), lk_miss (by decide +kernel), lk_hit]
theorem pt_SexpEscape__base {x0 x1 x2 x3 x4 y : V} : putF "_base" y (fs_SexpEscape x0 x1 x2 x3 x4) = fs_SexpEscape x0 x1 y x3 x4 := by
  unfold fs_SexpEscape
  rw [pf_miss (by decide +kernel), pf_miss (by decide +kernel), pf_hit]
theorem in_SexpEscape__base {x0 x1 x2 : V} : putF "_base" x2 ([("is_done", x0), ("octet", x1)] : List (Str × V)) = ([("is_done", x0), ("octet", x1), ("_base", x2)] : List (Str × V)) := by
  rw [pf_miss (by decide +kernel), pf_miss (by decide +kernel), pf_nil]
theorem lk_SexpEscape__missing {x0 x1 x2 x3 x4 : V} : (fs_SexpEscape x0 x1 x2 x3 x4).lookup ("_missing" : Str) = some x3 := by
  unfold fs_SexpEscape
  rw [lk_miss (by decide +kernel), lk_miss (by decide +kernel), lk_miss (by decide +kernel), lk_hit]
theorem pt_SexpEscape__missing {x0 x1 x2 x3 x4 y : V} : putF "_missing" y (fs_SexpEscape x0 x1 x2 x3 x4) = fs_SexpEscape x0 x1 x2 y x4 := by
  unfold fs_SexpEscape
  rw [pf_miss (by decide +kernel), pf_miss (by decide +kernel), pf_miss (by decide +kernel), pf_hit]
theorem in_SexpEscape__missing {x0 x1 x2 x3 : V} : putF "_missing" x3 ([("is_done", x0), ("octet", x1), ("_base", x2)] : List (Str × V)) = ([("is_done", x0), ("octet", x1), ("_base", x2), ("_missing", x3)] : List (Str × V)) := by
  rw [pf_miss (by decide +kernel), pf_miss (by decide +kernel), pf_miss (by decide +kernel), pf_nil]
theorem lk_SexpEscape__worth {x0 x1 x2 x3 x4 : V} : (fs_SexpEscape x0 x1 x2 x3 x4).lookup ("_worth" : Str) = some x4 := by
  unfold fs_SexpEscape
  rw [lk_miss (by decide +kernel), lk_miss (by decide +kernel), lk_miss (by decide +kernel), lk_miss (by decide +kernel), lk_hit]
theorem pt_SexpEscape__worth {x0 x1 x2 x3 x4 y : V} : putF "_worth" y (fs_SexpEscape x0 x1 x2 x3 x4) = fs_SexpEscape x0 x1 x2 x3 y := by
  unfold fs_SexpEscape
  rw [pf_miss (by decide +kernel), pf_miss (by decide +kernel), pf_miss (by decide +kernel), pf_miss (by decide +kernel), pf_hit]
theorem in_SexpEscape__worth {x0 x1 x2 x3 x4 : V} : putF "_worth" x4 ([("is_done", x0), ("octet", x1), ("_base", x2), ("_missing", x3)] : List (Str × V)) = ([("is_done", x0), ("octet", x1), ("_base", x2), ("_missing", x3), ("_worth", x4)] : List (Str × V)) := by
  rw [pf_miss (by decide +kernel), pf_miss (by decide +kernel), pf_miss (by decide +kernel), pf_miss (by decide +kernel), pf_nil]
theorem no_SexpEscape_take {x0 x1 x2 x3 x4 : V} : (fs_SexpEscape x0 x1 x2 x3 x4).lookup ("take" : Str) = none := by
  unfold fs_SexpEscape
  rw [lk_miss (by decide +kernel), lk_miss (by decide +kernel), lk_miss (by decide +kernel), lk_miss (by decide +kernel), lk_miss (by decide +kernel)] <;> rfl
theorem no_SexpEscape__take_first {x0 x1 x2 x3 x4 : V} : (fs_SexpEscape x0 x1 x2 x3 x4).lookup ("_take_first" : Str) = none := by
  unfold fs_SexpEscape
  rw [lk_miss (by decide +kernel), lk_miss (by decide +kernel), lk_miss (by decide +kernel), lk_miss (by decide +kernel), lk_miss (by decide +kernel)] <;> rfl
theorem no_SexpEscape__take_digit {x0 x1 x2 x3 x4 : V} : (fs_SexpEscape x0 x1 x2 x3 x4).lookup ("_take_digit" : Str) = none := by
  unfold fs_SexpEscape
  rw [lk_miss (by decide +kernel), lk_miss (by decide +kernel), lk_miss (by decide +kernel), lk_miss (by decide +kernel), lk_miss (by decide +kernel)] <;> rfl
theorem few_SexpEscape {x0 x1 x2 x3 x4 : V} : (fs_SexpEscape x0 x1 x2 x3 x4).length < 1000 := by
  show 5 < 1000
  decide
def fs_SexpQuoted (x0 x1 x2 x3 : V) : List (Str × V) := [("is_done", x0), ("can_end", x1), ("_octets", x2), ("_escape", x3)]
theorem lk_SexpQuoted_is_done {x0 x1 x2 x3 : V} : (fs_SexpQuoted x0 x1 x2 x3).lookup ("is_done" : Str) = some x0 := by
  unfold fs_SexpQuoted
  rw [lk_hit]
theorem pt_SexpQuoted_is_done {x0 x1 x2 x3 y : V} : putF "is_done" y (fs_SexpQuoted x0 x1 x2 x3) = fs_SexpQuoted y x1 x2 x3 := by
  unfold fs_SexpQuoted
  rw [pf_hit]
theorem in_SexpQuoted_is_done {x0 : V} : putF "is_done" x0 ([] : List (Str × V)) = ([("is_done", x0)] : List (Str × V)) := by
  rw [pf_nil]
theorem lk_SexpQuoted_can_end {x0 x1 x2 x3 : V} : (fs_SexpQuoted x0 x1 x2 x3).lookup ("can_end" : Str) = some x1 := by
  unfold fs_SexpQuoted
  rw [lk_miss (by decide +kernel), lk_hit]
theorem pt_SexpQuoted_can_end {x0 x1 x2 x3 y : V} : putF "can_end" y (fs_SexpQuoted x0 x1 x2 x3) = fs_SexpQuoted x0 y x2 x3 := by
  unfold fs_SexpQuoted
  rw [pf_miss (by decide +kernel), pf_hit]
theorem in_SexpQuoted_can_end {x0 x1 : V} : putF "can_end" x1 ([("is_done", x0)] : List (Str × V)) = ([("is_done", x0), ("can_end", x1)] : List (Str × V)) := by
  rw [pf_miss (by decide +kernel), pf_nil]
theorem lk_SexpQuoted__octets {x0 x1 x2 x3 : V} : (fs_SexpQuoted x0 x1 x2 x3).lookup ("_octets" : Str) = some x2 := by
  unfold fs_SexpQuoted
  rw [lk_miss (by decide +kernel), lk_miss (by decide +kernel), lk_hit]
theorem pt_SexpQuoted__octets {x0 x1 x2 x3 y : V} : putF "_octets" y (fs_SexpQuoted x0 x1 x2 x3) = fs_SexpQuoted x0 x1 y x3 := by
  unfold fs_SexpQuoted
  rw [pf_miss (by decide +kernel), pf_miss (by decide +kernel), pf_hit]
theorem in_SexpQuoted__octets {x0 x1 x2 : V} : putF "_octets" x2 ([("is_done", x0), ("can_end", x1)] : List (Str × V)) = ([("is_done", x0), ("can_end", x1), ("_octets", x2)] : List (Str × V)) := by
  rw [pf_miss (by decide +kernel), pf_miss (by decide +kernel), pf_nil]
theorem lk_SexpQuoted__escape {x0 x1 x2 x3 : V} : (fs_SexpQuoted x0 x1 x2 x3).lookup ("_escape" : Str) = some x3 := by
  unfold fs_SexpQuoted
  rw [lk_miss (by decide +kernel), lk_miss (by decide +kernel), lk_miss (by decide +kernel), lk_hit]
theorem pt_SexpQuoted__escape {x0 x1 x2 x3 y : V} : putF "_escape" y (fs_SexpQuoted x0 x1 x2 x3) = fs_SexpQuoted x0 x1 x2 y := by
  unfold fs_SexpQuoted
  rw [pf_miss (by decide +kernel), pf_miss (by decide +kernel), pf_miss (by decide +kernel), pf_hit]
theorem in_SexpQuoted__escape {x0 x1 x2 x3 : V} : putF "_escape" x3 ([("is_done", x0), ("can_end", x1), ("_octets", x2)] : List (Str × V)) = ([("is_done", x0), ("can_end", x1), ("_octets", x2), ("_escape", x3)] : List (Str × V)) := by
  rw [pf_miss (by decide +kernel), pf_miss (by decide +kernel), pf_miss (by decide +kernel), pf_nil]
theorem no_SexpQuoted_take {x0 x1 x2 x3 : V} : (fs_SexpQuoted x0 x1 x2 x3).lookup ("take" : Str) = none := by
  unfold fs_SexpQuoted
  rw [lk_miss (by decide +kernel), lk_miss (by decide +kernel), lk_miss (by decide +kernel), lk_miss (by decide +kernel)] <;> rfl
theorem no_SexpQuoted__take_in_escape {x0 x1 x2 x3 : V} : (fs_SexpQuoted x0 x1 x2 x3).lookup ("_take_in_escape" : Str) = none := by
  unfold fs_SexpQuoted
  rw [lk_miss (by decide +kernel), lk_miss (by decide +kernel), lk_miss (by decide +kernel), lk_miss (by decide +kernel)] <;> rfl
theorem no_SexpQuoted_leaf {x0 x1 x2 x3 : V} : (fs_SexpQuoted x0 x1 x2 x3).lookup ("leaf" : Str) = none := by
  unfold fs_SexpQuoted
  rw [lk_miss (by decide +kernel), lk_miss (by decide +kernel), lk_miss (by decide +kernel), lk_miss (by decide +kernel)] <;> rfl
theorem few_SexpQuoted {x0 x1 x2 x3 : V} : (fs_SexpQuoted x0 x1 x2 x3).length < 1000 := by
  show 4 < 1000
  decide
def fs_SexpScanner (x0 x1 x2 x3 : V) : List (Str × V) := [("_place", x0), ("_is_over", x1), ("_nest", x2), ("_atom", x3)]
theorem lk_SexpScanner__place {x0 x1 x2 x3 : V} : (fs_SexpScanner x0 x1 x2 x3).lookup ("_place" : Str) = some x0 := by
  unfold fs_SexpScanner
  rw [lk_hit]
theorem pt_SexpScanner__place {x0 x1 x2 x3 y : V} : putF "_place" y (fs_SexpScanner x0 x1 x2 x3) = fs_SexpScanner y x1 x2 x3 := by
  unfold fs_SexpScanner
  rw [pf_hit]
theorem in_SexpScanner__place {x0 : V} : putF "_place" x0 ([] : List (Str × V)) = ([("_place", x0)] : List (Str × V)) := by
  rw [pf_nil]
theorem lk_SexpScanner__is_over {x0 x1 x2 x3 : V} : (fs_SexpScanner x0 x1 x2 x3).lookup ("_is_over" : Str) = some x1 := by
  unfold fs_SexpScanner
  rw [lk_miss (by decide +kernel), lk_hit]
theorem pt_SexpScanner__is_over {x0 x1 x2 x3 y : V} : putF "_is_over" y (fs_SexpScanner x0 x1 x2 x3) = fs_SexpScanner x0 y x2 x3 := by
  unfold fs_SexpScanner
  rw [pf_miss (by decide +kernel), pf_hit]
theorem in_SexpScanner__is_over {x0 x1 : V} : putF "_is_over" x1 ([("_place", x0)] : List (Str × V)) = ([("_place", x0), ("_is_over", x1)] : List (Str × V)) := by
  rw [pf_miss (by decide +kernel), pf_nil]
theorem lk_SexpScanner__nest {x0 x1 x2 x3 : V} : (fs_SexpScanner x0 x1 x2 x3).lookup ("_nest" : Str) = some x2 := by
  unfold fs_SexpScanner
  rw [lk_miss (by decide +kernel), lk_miss (by decide +kernel), lk_hit]
theorem pt_SexpScanner__nest {x0 x1 x2 x3 y : V} : putF "_nest" y (fs_SexpScanner x0 x1 x2 x3) = fs_SexpScanner x0 x1 y x3 := by
  unfold fs_SexpScanner
  rw [pf_miss (by decide +kernel), pf_miss (by decide +kernel), pf_hit]
theorem in_SexpScanner__nest {x0 x1 x2 : V} : putF "_nest" x2 ([("_place", x0), ("_is_over", x1)] : List (Str × V)) = ([("_place", x0), ("_is_over", x1), ("_nest", x2)] : List (Str × V)) := by
  rw [pf_miss (by decide +kernel), pf_miss (by decide +kernel), pf_nil]
theorem lk_SexpScanner__atom {x0 x1 x2 x3 : V} : (fs_SexpScanner x0 x1 x2 x3).lookup ("_atom" : Str) = some x3 := by
  unfold fs_SexpScanner
  rw [lk_miss (by decide +kernel), lk_miss (by decide +kernel), lk_miss (by decide +kernel), lk_hit]
theorem pt_SexpScanner__atom {x0 x1 x2 x3 y : V} : putF "_atom" y (fs_SexpScanner x0 x1 x2 x3) = fs_SexpScanner x0 x1 x2 y := by
  unfold fs_SexpScanner
  rw [pf_miss (by decide +kernel), pf_miss (by decide +kernel), pf_miss (by decide +kernel), pf_hit]
theorem in_SexpScanner__atom {x0 x1 x2 x3 : V} : putF "_atom" x3 ([("_place", x0), ("_is_over", x1), ("_nest", x2)] : List (Str × V)) = ([("_place", x0), ("_is_over", x1), ("_nest", x2), ("_atom", x3)] : List (Str × V)) := by
  rw [pf_miss (by decide +kernel), pf_miss (by decide +kernel), pf_miss (by decide +kernel), pf_nil]
theorem no_SexpScanner_step {x0 x1 x2 x3 : V} : (fs_SexpScanner x0 x1 x2 x3).lookup ("step" : Str) = none := by
  unfold fs_SexpScanner
  rw [lk_miss (by decide +kernel), lk_miss (by decide +kernel), lk_miss (by decide +kernel), lk_miss (by decide +kernel)] <;> rfl
theorem no_SexpScanner_end {x0 x1 x2 x3 : V} : (fs_SexpScanner x0 x1 x2 x3).lookup ("end" : Str) = none := by
  unfold fs_SexpScanner
  rw [lk_miss (by decide +kernel), lk_miss (by decide +kernel), lk_miss (by decide +kernel), lk_miss (by decide +kernel)] <;> rfl
theorem no_SexpScanner__go_on {x0 x1 x2 x3 : V} : (fs_SexpScanner x0 x1 x2 x3).lookup ("_go_on" : Str) = none := by
  unfold fs_SexpScanner
  rw [lk_miss (by decide +kernel), lk_miss (by decide +kernel), lk_miss (by decide +kernel), lk_miss (by decide +kernel)] <;> rfl
theorem no_SexpScanner__end_atom {x0 x1 x2 x3 : V} : (fs_SexpScanner x0 x1 x2 x3).lookup ("_end_atom" : Str) = none := by
  unfold fs_SexpScanner
  rw [lk_miss (by decide +kernel), lk_miss (by decide +kernel), lk_miss (by decide +kernel), lk_miss (by decide +kernel)] <;> rfl
theorem no_SexpScanner__end_value {x0 x1 x2 x3 : V} : (fs_SexpScanner x0 x1 x2 x3).lookup ("_end_value" : Str) = none := by
  unfold fs_SexpScanner
  rw [lk_miss (by decide +kernel), lk_miss (by decide +kernel), lk_miss (by decide +kernel), lk_miss (by decide +kernel)] <;> rfl
theorem no_SexpScanner__take_mark {x0 x1 x2 x3 : V} : (fs_SexpScanner x0 x1 x2 x3).lookup ("_take_mark" : Str) = none := by
  unfold fs_SexpScanner
  rw [lk_miss (by decide +kernel), lk_miss (by decide +kernel), lk_miss (by decide +kernel), lk_miss (by decide +kernel)] <;> rfl
theorem no_SexpScanner__close {x0 x1 x2 x3 : V} : (fs_SexpScanner x0 x1 x2 x3).lookup ("_close" : Str) = none := by
  unfold fs_SexpScanner
  rw [lk_miss (by decide +kernel), lk_miss (by decide +kernel), lk_miss (by decide +kernel), lk_miss (by decide +kernel)] <;> rfl
theorem few_SexpScanner {x0 x1 x2 x3 : V} : (fs_SexpScanner x0 x1 x2 x3).length < 1000 := by
  show 4 < 1000
  decide
def fs_Frame (x0 x1 x2 : V) : List (Str × V) := [("kind", x0), ("key", x1), ("inside", x2)]
theorem lk_Frame_kind {x0 x1 x2 : V} : (fs_Frame x0 x1 x2).lookup ("kind" : Str) = some x0 := by
  unfold fs_Frame
  rw [lk_hit]
theorem pt_Frame_kind {x0 x1 x2 y : V} : putF "kind" y (fs_Frame x0 x1 x2) = fs_Frame y x1 x2 := by
  unfold fs_Frame
  rw [pf_hit]
theorem in_Frame_kind {x0 : V} : putF "kind" x0 ([] : List (Str × V)) = ([("kind", x0)] : List (Str × V)) := by
  rw [pf_nil]
theorem lk_Frame_key {x0 x1 x2 : V} : (fs_Frame x0 x1 x2).lookup ("key" : Str) = some x1 := by
  unfold fs_Frame
  rw [lk_miss (by decide +kernel), lk_hit]
theorem pt_Frame_key {x0 x1 x2 y : V} : putF "key" y (fs_Frame x0 x1 x2) = fs_Frame x0 y x2 := by
  unfold fs_Frame
  rw [pf_miss (by decide +kernel), pf_hit]
theorem in_Frame_key {x0 x1 : V} : putF "key" x1 ([("kind", x0)] : List (Str × V)) = ([("kind", x0), ("key", x1)] : List (Str × V)) := by
  rw [pf_miss (by decide +kernel), pf_nil]
theorem lk_Frame_inside {x0 x1 x2 : V} : (fs_Frame x0 x1 x2).lookup ("inside" : Str) = some x2 := by
  unfold fs_Frame
  rw [lk_miss (by decide +kernel), lk_miss (by decide +kernel), lk_hit]
theorem pt_Frame_inside {x0 x1 x2 y : V} : putF "inside" y (fs_Frame x0 x1 x2) = fs_Frame x0 x1 y := by
  unfold fs_Frame
  rw [pf_miss (by decide +kernel), pf_miss (by decide +kernel), pf_hit]
theorem in_Frame_inside {x0 x1 x2 : V} : putF "inside" x2 ([("kind", x0), ("key", x1)] : List (Str × V)) = ([("kind", x0), ("key", x1), ("inside", x2)] : List (Str × V)) := by
  rw [pf_miss (by decide +kernel), pf_miss (by decide +kernel), pf_nil]
theorem no_Frame_put {x0 x1 x2 : V} : (fs_Frame x0 x1 x2).lookup ("put" : Str) = none := by
  unfold fs_Frame
  rw [lk_miss (by decide +kernel), lk_miss (by decide +kernel), lk_miss (by decide +kernel)] <;> rfl
theorem no_Frame_built {x0 x1 x2 : V} : (fs_Frame x0 x1 x2).lookup ("built" : Str) = none := by
  unfold fs_Frame
  rw [lk_miss (by decide +kernel), lk_miss (by decide +kernel), lk_miss (by decide +kernel)] <;> rfl
theorem few_Frame {x0 x1 x2 : V} : (fs_Frame x0 x1 x2).length < 1000 := by
  show 3 < 1000
  decide
def fs_Builder (x0 x1 x2 : V) : List (Str × V) := [("is_done", x0), ("value", x1), ("_frames", x2)]
theorem lk_Builder_is_done {x0 x1 x2 : V} : (fs_Builder x0 x1 x2).lookup ("is_done" : Str) = some x0 := by
  unfold fs_Builder
  rw [lk_hit]
theorem pt_Builder_is_done {x0 x1 x2 y : V} : putF "is_done" y (fs_Builder x0 x1 x2) = fs_Builder y x1 x2 := by
  unfold fs_Builder
  rw [pf_hit]
theorem in_Builder_is_done {x0 : V} : putF "is_done" x0 ([] : List (Str × V)) = ([("is_done", x0)] : List (Str × V)) := by
  rw [pf_nil]
theorem lk_Builder_value {x0 x1 x2 : V} : (fs_Builder x0 x1 x2).lookup ("value" : Str) = some x1 := by
  unfold fs_Builder
  rw [lk_miss (by decide +kernel), lk_hit]
theorem pt_Builder_value {x0 x1 x2 y : V} : putF "value" y (fs_Builder x0 x1 x2) = fs_Builder x0 y x2 := by
  unfold fs_Builder
  rw [pf_miss (by decide +kernel), pf_hit]
theorem in_Builder_value {x0 x1 : V} : putF "value" x1 ([("is_done", x0)] : List (Str × V)) = ([("is_done", x0), ("value", x1)] : List (Str × V)) := by
  rw [pf_miss (by decide +kernel), pf_nil]
theorem lk_Builder__frames {x0 x1 x2 : V} : (fs_Builder x0 x1 x2).lookup ("_frames" : Str) = some x2 := by
  unfold fs_Builder
  rw [lk_miss (by decide +kernel), lk_miss (by decide +kernel), lk_hit]
theorem pt_Builder__frames {x0 x1 x2 y : V} : putF "_frames" y (fs_Builder x0 x1 x2) = fs_Builder x0 x1 y := by
  unfold fs_Builder
  rw [pf_miss (by decide +kernel), pf_miss (by decide +kernel), pf_hit]
theorem in_Builder__frames {x0 x1 x2 : V} : putF "_frames" x2 ([("is_done", x0), ("value", x1)] : List (Str × V)) = ([("is_done", x0), ("value", x1), ("_frames", x2)] : List (Str × V)) := by
  rw [pf_miss (by decide +kernel), pf_miss (by decide +kernel), pf_nil]
theorem no_Builder_take {x0 x1 x2 : V} : (fs_Builder x0 x1 x2).lookup ("take" : Str) = none := by
  unfold fs_Builder
  rw [lk_miss (by decide +kernel), lk_miss (by decide +kernel), lk_miss (by decide +kernel)] <;> rfl
theorem no_Builder__put {x0 x1 x2 : V} : (fs_Builder x0 x1 x2).lookup ("_put" : Str) = none := by
  unfold fs_Builder
  rw [lk_miss (by decide +kernel), lk_miss (by decide +kernel), lk_miss (by decide +kernel)] <;> rfl
theorem few_Builder {x0 x1 x2 : V} : (fs_Builder x0 x1 x2).length < 1000 := by
  show 3 < 1000
  decide

abbrev s_Begun___init__ : Stmt := (inClass (top 11) 0)
theorem sc_Begun___init__ : FnScope ["self"] ["self"] (defScope s_Begun___init__) := ⟨rfl, rfl, rfl, by decide +kernel, rfl, by decide +kernel, by decide +kernel⟩
abbrev s_SexpLoose___init__ : Stmt := (inClass (top 52) 0)
theorem sc_SexpLoose___init__ : FnScope ["self"] ["self"] (defScope s_SexpLoose___init__) := ⟨rfl, rfl, rfl, by decide +kernel, rfl, by decide +kernel, by decide +kernel⟩
abbrev s__law_cell : Stmt := (top 72)
theorem sc__law_cell : FnScope ["script", "k"] ["script", "k"] (defScope s__law_cell) := ⟨rfl, rfl, rfl, by decide +kernel, rfl, by decide +kernel, by decide +kernel⟩
abbrev s__law_numbers : Stmt := (top 73)
theorem sc__law_numbers : FnScope ["cell", "many", "rest", "size", "numbers", "k", "mixed"] ["cell", "many"] (defScope s__law_numbers) := ⟨rfl, rfl, rfl, by decide +kernel, rfl, by decide +kernel, by decide +kernel⟩
abbrev s__law_state : Stmt := (top 74)
theorem sc__law_state : FnScope ["script", "left", "numbers", "k", "parted"] ["script", "left"] (defScope s__law_state) := ⟨rfl, rfl, rfl, by decide +kernel, rfl, by decide +kernel, by decide +kernel⟩
abbrev s__law_next : Stmt := (top 75)
theorem sc__law_next : FnScope ["state", "many", "at"] ["state", "many"] (defScope s__law_next) := ⟨rfl, rfl, rfl, by decide +kernel, rfl, by decide +kernel, by decide +kernel⟩
abbrev s__law_many : Stmt := (top 76)
theorem sc__law_many : FnScope ["state", "most"] ["state", "most"] (defScope s__law_many) := ⟨rfl, rfl, rfl, by decide +kernel, rfl, by decide +kernel, by decide +kernel⟩
abbrev s__law_points : Stmt := (top 77)
theorem sc__law_points : FnScope ["state", "menu", "points", "k", "pick", "point"] ["state"] (defScope s__law_points) := ⟨rfl, rfl, rfl, by decide +kernel, rfl, by decide +kernel, by decide +kernel⟩
abbrev s__law_octets : Stmt := (top 78)
theorem sc__law_octets : FnScope ["state", "many", "low", "span", "k"] ["state"] (defScope s__law_octets) := ⟨rfl, rfl, rfl, by decide +kernel, rfl, by decide +kernel, by decide +kernel⟩
abbrev s__law_leaf : Stmt := (top 79)
theorem sc__law_leaf : FnScope ["state", "kinds", "kind"] ["state", "kinds"] (defScope s__law_leaf) := ⟨rfl, rfl, rfl, by decide +kernel, rfl, by decide +kernel, by decide +kernel⟩
abbrev s__law_value : Stmt := (top 80)
theorem sc__law_value : FnScope ["state", "deep", "kinds", "has_maps", "pick", "many", "k", "entries", "key", "entry"] ["state", "deep", "kinds", "has_maps"] (defScope s__law_value) := ⟨rfl, rfl, rfl, by decide +kernel, rfl, by decide +kernel, by decide +kernel⟩
abbrev s__law_towered : Stmt := (top 81)
theorem sc__law_towered : FnScope ["state", "value", "has_maps", "k", "pick"] ["state", "value", "has_maps"] (defScope s__law_towered) := ⟨rfl, rfl, rfl, by decide +kernel, rfl, by decide +kernel, by decide +kernel⟩
abbrev s__law_same : Stmt := (top 84)
theorem sc__law_same : FnScope ["told", "due", "k"] ["told", "due"] (defScope s__law_same) := ⟨rfl, rfl, rfl, by decide +kernel, rfl, by decide +kernel, by decide +kernel⟩
abbrev s__law_mixed : Stmt := (top 82)
theorem sc__law_mixed : FnScope ["state", "entries", "found", "entry"] ["state", "entries"] (defScope s__law_mixed) := ⟨rfl, rfl, rfl, by decide +kernel, rfl, by decide +kernel, by decide +kernel⟩
abbrev s__law_events : Stmt := (top 88)
theorem sc__law_events : FnScope ["state", "value", "found", "item", "entry"] ["state", "value"] (defScope s__law_events) := ⟨rfl, rfl, rfl, by decide +kernel, rfl, by decide +kernel, by decide +kernel⟩
abbrev s_AlikeError___init__ : Stmt := (inClass (top 2) 0)
theorem sc_AlikeError___init__ : FnScope ["self", "what"] ["self", "what"] (defScope s_AlikeError___init__) := ⟨rfl, rfl, rfl, by decide +kernel, rfl, by decide +kernel, by decide +kernel⟩
abbrev s_is_lacking : Stmt := (top 46)
theorem sc_is_lacking : FnScope ["value"] ["value"] (defScope s_is_lacking) := ⟨rfl, rfl, rfl, by decide +kernel, rfl, by decide +kernel, by decide +kernel⟩
abbrev s_Begun__count : Stmt := (inClass (top 11) 2)
theorem sc_Begun__count : FnScope ["self", "value", "is_lacking"] ["self", "value", "is_lacking"] (defScope s_Begun__count) := ⟨rfl, rfl, rfl, by decide +kernel, rfl, by decide +kernel, by decide +kernel⟩
abbrev s_Begun_note : Stmt := (inClass (top 11) 1)
theorem sc_Begun_note : FnScope ["self", "event", "is_lacking"] ["self", "event", "is_lacking"] (defScope s_Begun_note) := ⟨rfl, rfl, rfl, by decide +kernel, rfl, by decide +kernel, by decide +kernel⟩
abbrev s_begins_token : Stmt := (top 40)
theorem sc_begins_token : FnScope ["octet"] ["octet"] (defScope s_begins_token) := ⟨rfl, rfl, rfl, by decide +kernel, rfl, by decide +kernel, by decide +kernel⟩
abbrev s_is_digit : Stmt := (top 16)
theorem sc_is_digit : FnScope ["octet"] ["octet"] (defScope s_is_digit) := ⟨rfl, rfl, rfl, by decide +kernel, rfl, by decide +kernel, by decide +kernel⟩
abbrev s_goes_on_token : Stmt := (top 41)
theorem sc_goes_on_token : FnScope ["octet"] ["octet"] (defScope s_goes_on_token) := ⟨rfl, rfl, rfl, by decide +kernel, rfl, by decide +kernel, by decide +kernel⟩
abbrev s__can_be_token : Stmt := (top 48)
theorem sc__can_be_token : FnScope ["octets", "octet"] ["octets"] (defScope s__can_be_token) := ⟨rfl, rfl, rfl, by decide +kernel, rfl, by decide +kernel, by decide +kernel⟩
abbrev s__quoted : Stmt := (top 49)
theorem sc__quoted : FnScope ["octets", "written", "octet"] ["octets"] (defScope s__quoted) := ⟨rfl, rfl, rfl, by decide +kernel, rfl, by decide +kernel, by decide +kernel⟩
abbrev s_in_ascii : Stmt := (top 17)
theorem sc_in_ascii : FnScope ["string", "character"] ["string"] (defScope s_in_ascii) := ⟨rfl, rfl, rfl, by decide +kernel, rfl, by decide +kernel, by decide +kernel⟩
abbrev s_hex_digits : Stmt := (top 21)
theorem sc_hex_digits : FnScope ["octet"] ["octet"] (defScope s_hex_digits) := ⟨rfl, rfl, rfl, by decide +kernel, rfl, by decide +kernel, by decide +kernel⟩
abbrev s__hexadecimal : Stmt := (top 50)
theorem sc__hexadecimal : FnScope ["octets", "written", "octet"] ["octets"] (defScope s__hexadecimal) := ⟨rfl, rfl, rfl, by decide +kernel, rfl, by decide +kernel, by decide +kernel⟩
abbrev s_loose_octets : Stmt := (top 47)
theorem sc_loose_octets : FnScope ["octets", "octet"] ["octets"] (defScope s_loose_octets) := ⟨rfl, rfl, rfl, by decide +kernel, rfl, by decide +kernel, by decide +kernel⟩
abbrev s_SexpLoose__before_item : Stmt := (inClass (top 52) 2)
theorem sc_SexpLoose__before_item : FnScope ["self"] ["self"] (defScope s_SexpLoose__before_item) := ⟨rfl, rfl, rfl, by decide +kernel, rfl, by decide +kernel, by decide +kernel⟩
abbrev s_SexpLoose_take : Stmt := (inClass (top 52) 1)
theorem sc_SexpLoose_take : FnScope ["self", "event", "before"] ["self", "event"] (defScope s_SexpLoose_take) := ⟨rfl, rfl, rfl, by decide +kernel, rfl, by decide +kernel, by decide +kernel⟩
abbrev s__law_taken : Stmt := (top 89)
theorem sc__law_taken : FnScope ["writer", "event", "e"] ["writer", "event"] (defScope s__law_taken) := ⟨rfl, rfl, rfl, by decide +kernel, rfl, by decide +kernel, by decide +kernel⟩
abbrev s_Nest___init__ : Stmt := (inClass (top 54) 0)
theorem sc_Nest___init__ : FnScope ["self"] ["self"] (defScope s_Nest___init__) := ⟨rfl, rfl, rfl, by decide +kernel, rfl, by decide +kernel, by decide +kernel⟩
abbrev s_SexpScanner___init__ : Stmt := (inClass (top 62) 0)
theorem sc_SexpScanner___init__ : FnScope ["self"] ["self"] (defScope s_SexpScanner___init__) := ⟨rfl, rfl, rfl, by decide +kernel, rfl, by decide +kernel, by decide +kernel⟩
abbrev s_Counted__take_in_count : Stmt := (inClass (top 18) 2)
theorem sc_Counted__take_in_count : FnScope ["self", "octet"] ["self", "octet"] (defScope s_Counted__take_in_count) := ⟨rfl, rfl, rfl, by decide +kernel, rfl, by decide +kernel, by decide +kernel⟩
abbrev s_Counted_take : Stmt := (inClass (top 18) 1)
theorem sc_Counted_take : FnScope ["self", "octet"] ["self", "octet"] (defScope s_Counted_take) := ⟨rfl, rfl, rfl, by decide +kernel, rfl, by decide +kernel, by decide +kernel⟩
abbrev s_SexpToken_take : Stmt := (inClass (top 42) 1)
theorem sc_SexpToken_take : FnScope ["self", "octet"] ["self", "octet"] (defScope s_SexpToken_take) := ⟨rfl, rfl, rfl, by decide +kernel, rfl, by decide +kernel, by decide +kernel⟩
abbrev s_hex_worth : Stmt := (top 20)
theorem sc_hex_worth : FnScope ["octet"] ["octet"] (defScope s_hex_worth) := ⟨rfl, rfl, rfl, by decide +kernel, rfl, by decide +kernel, by decide +kernel⟩
abbrev s_SexpHex__take_digit : Stmt := (inClass (top 43) 2)
theorem sc_SexpHex__take_digit : FnScope ["self", "worth"] ["self", "worth"] (defScope s_SexpHex__take_digit) := ⟨rfl, rfl, rfl, by decide +kernel, rfl, by decide +kernel, by decide +kernel⟩
abbrev s_SexpHex_take : Stmt := (inClass (top 43) 1)
theorem sc_SexpHex_take : FnScope ["self", "octet", "worth"] ["self", "octet"] (defScope s_SexpHex_take) := ⟨rfl, rfl, rfl, by decide +kernel, rfl, by decide +kernel, by decide +kernel⟩
abbrev s_Base64_is_whole : Stmt := (inClass (top 26) 1)
theorem sc_Base64_is_whole : FnScope ["self"] ["self"] (defScope s_Base64_is_whole) := ⟨rfl, rfl, rfl, by decide +kernel, rfl, by decide +kernel, by decide +kernel⟩
abbrev s__worth_of : Stmt := (top 25)
theorem sc__worth_of : FnScope ["octet", "first", "last", "least"] ["octet"] (defScope s__worth_of) := ⟨rfl, rfl, rfl, by decide +kernel, rfl, by decide +kernel, by decide +kernel⟩
abbrev s_Base64__take_pad : Stmt := (inClass (top 26) 3)
theorem sc_Base64__take_pad : FnScope ["self", "behind"] ["self"] (defScope s_Base64__take_pad) := ⟨rfl, rfl, rfl, by decide +kernel, rfl, by decide +kernel, by decide +kernel⟩
abbrev s_Base64__take_digit : Stmt := (inClass (top 26) 4)
theorem sc_Base64__take_digit : FnScope ["self", "worth", "bits", "behind", "octet"] ["self", "worth"] (defScope s_Base64__take_digit) := ⟨rfl, rfl, rfl, by decide +kernel, rfl, by decide +kernel, by decide +kernel⟩
abbrev s_Base64_take : Stmt := (inClass (top 26) 2)
theorem sc_Base64_take : FnScope ["self", "octet", "worth"] ["self", "octet"] (defScope s_Base64_take) := ⟨rfl, rfl, rfl, by decide +kernel, rfl, by decide +kernel, by decide +kernel⟩
abbrev s_SexpBase64_take : Stmt := (inClass (top 44) 1)
theorem sc_SexpBase64_take : FnScope ["self", "octet"] ["self", "octet"] (defScope s_SexpBase64_take) := ⟨rfl, rfl, rfl, by decide +kernel, rfl, by decide +kernel, by decide +kernel⟩
abbrev s_SexpEscape___init__ : Stmt := (inClass (top 58) 0)
theorem sc_SexpEscape___init__ : FnScope ["self"] ["self"] (defScope s_SexpEscape___init__) := ⟨rfl, rfl, rfl, by decide +kernel, rfl, by decide +kernel, by decide +kernel⟩
abbrev s_SexpEscape__take_digit : Stmt := (inClass (top 58) 3)
theorem sc_SexpEscape__take_digit : FnScope ["self", "digit"] ["self", "digit"] (defScope s_SexpEscape__take_digit) := ⟨rfl, rfl, rfl, by decide +kernel, rfl, by decide +kernel, by decide +kernel⟩
abbrev s_SexpEscape__take_first : Stmt := (inClass (top 58) 2)
theorem sc_SexpEscape__take_first : FnScope ["self", "octet"] ["self", "octet"] (defScope s_SexpEscape__take_first) := ⟨rfl, rfl, rfl, by decide +kernel, rfl, by decide +kernel, by decide +kernel⟩
abbrev s_SexpEscape_take : Stmt := (inClass (top 58) 1)
theorem sc_SexpEscape_take : FnScope ["self", "octet", "digit"] ["self", "octet"] (defScope s_SexpEscape_take) := ⟨rfl, rfl, rfl, by decide +kernel, rfl, by decide +kernel, by decide +kernel⟩
abbrev s_SexpQuoted__take_in_escape : Stmt := (inClass (top 59) 2)
theorem sc_SexpQuoted__take_in_escape : FnScope ["self", "octet"] ["self", "octet"] (defScope s_SexpQuoted__take_in_escape) := ⟨rfl, rfl, rfl, by decide +kernel, rfl, by decide +kernel, by decide +kernel⟩
abbrev s_SexpQuoted_take : Stmt := (inClass (top 59) 1)
theorem sc_SexpQuoted_take : FnScope ["self", "octet"] ["self", "octet"] (defScope s_SexpQuoted_take) := ⟨rfl, rfl, rfl, by decide +kernel, rfl, by decide +kernel, by decide +kernel⟩
abbrev s_Counted_leaf : Stmt := (inClass (top 18) 3)
theorem sc_Counted_leaf : FnScope ["self"] ["self"] (defScope s_Counted_leaf) := ⟨rfl, rfl, rfl, by decide +kernel, rfl, by decide +kernel, by decide +kernel⟩
abbrev s_SexpToken_leaf : Stmt := (inClass (top 42) 2)
theorem sc_SexpToken_leaf : FnScope ["self"] ["self"] (defScope s_SexpToken_leaf) := ⟨rfl, rfl, rfl, by decide +kernel, rfl, by decide +kernel, by decide +kernel⟩
abbrev s_SexpHex_leaf : Stmt := (inClass (top 43) 3)
theorem sc_SexpHex_leaf : FnScope ["self"] ["self"] (defScope s_SexpHex_leaf) := ⟨rfl, rfl, rfl, by decide +kernel, rfl, by decide +kernel, by decide +kernel⟩
abbrev s_SexpBase64_leaf : Stmt := (inClass (top 44) 2)
theorem sc_SexpBase64_leaf : FnScope ["self"] ["self"] (defScope s_SexpBase64_leaf) := ⟨rfl, rfl, rfl, by decide +kernel, rfl, by decide +kernel, by decide +kernel⟩
abbrev s_SexpQuoted_leaf : Stmt := (inClass (top 59) 3)
theorem sc_SexpQuoted_leaf : FnScope ["self"] ["self"] (defScope s_SexpQuoted_leaf) := ⟨rfl, rfl, rfl, by decide +kernel, rfl, by decide +kernel, by decide +kernel⟩
abbrev s_Nest_inner : Stmt := (inClass (top 54) 1)
theorem sc_Nest_inner : FnScope ["self"] ["self"] (defScope s_Nest_inner) := ⟨rfl, rfl, rfl, by decide +kernel, rfl, by decide +kernel, by decide +kernel⟩
abbrev s_SexpScanner__end_value : Stmt := (inClass (top 62) 5)
theorem sc_SexpScanner__end_value : FnScope ["self"] ["self"] (defScope s_SexpScanner__end_value) := ⟨rfl, rfl, rfl, by decide +kernel, rfl, by decide +kernel, by decide +kernel⟩
abbrev s_SexpScanner__end_atom : Stmt := (inClass (top 62) 4)
theorem sc_SexpScanner__end_atom : FnScope ["self", "events"] ["self", "events"] (defScope s_SexpScanner__end_atom) := ⟨rfl, rfl, rfl, by decide +kernel, rfl, by decide +kernel, by decide +kernel⟩
abbrev s_SexpScanner__go_on : Stmt := (inClass (top 62) 3)
theorem sc_SexpScanner__go_on : FnScope ["self", "octet", "events", "belongs"] ["self", "octet", "events"] (defScope s_SexpScanner__go_on) := ⟨rfl, rfl, rfl, by decide +kernel, rfl, by decide +kernel, by decide +kernel⟩
abbrev s_Nest_grow : Stmt := (inClass (top 54) 2)
theorem sc_Nest_grow : FnScope ["self", "kind"] ["self", "kind"] (defScope s_Nest_grow) := ⟨rfl, rfl, rfl, by decide +kernel, rfl, by decide +kernel, by decide +kernel⟩
abbrev s_Counted___init__ : Stmt := (inClass (top 18) 0)
theorem sc_Counted___init__ : FnScope ["self"] ["self"] (defScope s_Counted___init__) := ⟨rfl, rfl, rfl, by decide +kernel, rfl, by decide +kernel, by decide +kernel⟩
abbrev s_SexpToken___init__ : Stmt := (inClass (top 42) 0)
theorem sc_SexpToken___init__ : FnScope ["self"] ["self"] (defScope s_SexpToken___init__) := ⟨rfl, rfl, rfl, by decide +kernel, rfl, by decide +kernel, by decide +kernel⟩
abbrev s_SexpHex___init__ : Stmt := (inClass (top 43) 0)
theorem sc_SexpHex___init__ : FnScope ["self"] ["self"] (defScope s_SexpHex___init__) := ⟨rfl, rfl, rfl, by decide +kernel, rfl, by decide +kernel, by decide +kernel⟩
abbrev s_Base64___init__ : Stmt := (inClass (top 26) 0)
theorem sc_Base64___init__ : FnScope ["self"] ["self"] (defScope s_Base64___init__) := ⟨rfl, rfl, rfl, by decide +kernel, rfl, by decide +kernel, by decide +kernel⟩
abbrev s_SexpBase64___init__ : Stmt := (inClass (top 44) 0)
theorem sc_SexpBase64___init__ : FnScope ["self"] ["self"] (defScope s_SexpBase64___init__) := ⟨rfl, rfl, rfl, by decide +kernel, rfl, by decide +kernel, by decide +kernel⟩
abbrev s_SexpQuoted___init__ : Stmt := (inClass (top 59) 0)
theorem sc_SexpQuoted___init__ : FnScope ["self"] ["self"] (defScope s_SexpQuoted___init__) := ⟨rfl, rfl, rfl, by decide +kernel, rfl, by decide +kernel, by decide +kernel⟩
abbrev s__atom_of : Stmt := (top 61)
theorem sc__atom_of : FnScope ["octet", "atom"] ["octet"] (defScope s__atom_of) := ⟨rfl, rfl, rfl, by decide +kernel, rfl, by decide +kernel, by decide +kernel⟩
abbrev s_Nest_shrink : Stmt := (inClass (top 54) 3)
theorem sc_Nest_shrink : FnScope ["self"] ["self"] (defScope s_Nest_shrink) := ⟨rfl, rfl, rfl, by decide +kernel, rfl, by decide +kernel, by decide +kernel⟩
abbrev s_SexpScanner__close : Stmt := (inClass (top 62) 7)
theorem sc_SexpScanner__close : FnScope ["self", "events"] ["self", "events"] (defScope s_SexpScanner__close) := ⟨rfl, rfl, rfl, by decide +kernel, rfl, by decide +kernel, by decide +kernel⟩
abbrev s_SexpScanner__take_mark : Stmt := (inClass (top 62) 6)
theorem sc_SexpScanner__take_mark : FnScope ["self", "octet", "events"] ["self", "octet", "events"] (defScope s_SexpScanner__take_mark) := ⟨rfl, rfl, rfl, by decide +kernel, rfl, by decide +kernel, by decide +kernel⟩
abbrev s_SexpScanner_step : Stmt := (inClass (top 62) 1)
theorem sc_SexpScanner_step : FnScope ["self", "octet", "events"] ["self", "octet"] (defScope s_SexpScanner_step) := ⟨rfl, rfl, rfl, by decide +kernel, rfl, by decide +kernel, by decide +kernel⟩
abbrev s_SexpScanner_end : Stmt := (inClass (top 62) 2)
theorem sc_SexpScanner_end : FnScope ["self", "events"] ["self"] (defScope s_SexpScanner_end) := ⟨rfl, rfl, rfl, by decide +kernel, rfl, by decide +kernel, by decide +kernel⟩
abbrev s_Builder___init__ : Stmt := (inClass (top 65) 0)
theorem sc_Builder___init__ : FnScope ["self"] ["self"] (defScope s_Builder___init__) := ⟨rfl, rfl, rfl, by decide +kernel, rfl, by decide +kernel, by decide +kernel⟩
abbrev s_Frame___init__ : Stmt := (inClass (top 64) 0)
theorem sc_Frame___init__ : FnScope ["self", "kind"] ["self", "kind"] (defScope s_Frame___init__) := ⟨rfl, rfl, rfl, by decide +kernel, rfl, by decide +kernel, by decide +kernel⟩
abbrev s_list_of : Stmt := (top 8)
theorem sc_list_of : FnScope ["items"] ["items"] (defScope s_list_of) := ⟨rfl, rfl, rfl, by decide +kernel, rfl, by decide +kernel, by decide +kernel⟩
abbrev s_map_of : Stmt := (top 9)
theorem sc_map_of : FnScope ["entries", "table", "points", "value", "key"] ["entries"] (defScope s_map_of) := ⟨rfl, rfl, rfl, by decide +kernel, rfl, by decide +kernel, by decide +kernel⟩
abbrev s_Frame_built : Stmt := (inClass (top 64) 2)
theorem sc_Frame_built : FnScope ["self"] ["self"] (defScope s_Frame_built) := ⟨rfl, rfl, rfl, by decide +kernel, rfl, by decide +kernel, by decide +kernel⟩
abbrev s_Frame_put : Stmt := (inClass (top 64) 1)
theorem sc_Frame_put : FnScope ["self", "value"] ["self", "value"] (defScope s_Frame_put) := ⟨rfl, rfl, rfl, by decide +kernel, rfl, by decide +kernel, by decide +kernel⟩
abbrev s_Builder__put : Stmt := (inClass (top 65) 2)
theorem sc_Builder__put : FnScope ["self", "value", "frame"] ["self", "value"] (defScope s_Builder__put) := ⟨rfl, rfl, rfl, by decide +kernel, rfl, by decide +kernel, by decide +kernel⟩
abbrev s_Builder_take : Stmt := (inClass (top 65) 1)
theorem sc_Builder_take : FnScope ["self", "event", "frame"] ["self", "event"] (defScope s_Builder_take) := ⟨rfl, rfl, rfl, by decide +kernel, rfl, by decide +kernel, by decide +kernel⟩
abbrev s__take_all : Stmt := (top 68)
theorem sc__take_all : FnScope ["builder", "events", "event"] ["builder", "events"] (defScope s__take_all) := ⟨rfl, rfl, rfl, by decide +kernel, rfl, by decide +kernel, by decide +kernel⟩
abbrev s_value_of_text : Stmt := (top 67)
theorem sc_value_of_text : FnScope ["scanner", "octets", "builder", "octet"] ["scanner", "octets"] (defScope s_value_of_text) := ⟨rfl, rfl, rfl, by decide +kernel, rfl, by decide +kernel, by decide +kernel⟩
abbrev s_read_sexp : Stmt := (top 70)
theorem sc_read_sexp : FnScope ["octets"] ["octets"] (defScope s_read_sexp) := ⟨rfl, rfl, rfl, by decide +kernel, rfl, by decide +kernel, by decide +kernel⟩
abbrev s__law_read : Stmt := (top 90)
theorem sc__law_read : FnScope ["octets"] ["octets"] (defScope s__law_read) := ⟨rfl, rfl, rfl, by decide +kernel, rfl, by decide +kernel, by decide +kernel⟩
abbrev s__law_lacks : Stmt := (top 91)
theorem sc__law_lacks : FnScope ["event"] ["event"] (defScope s__law_lacks) := ⟨rfl, rfl, rfl, by decide +kernel, rfl, by decide +kernel, by decide +kernel⟩
abbrev s__law_ascii : Stmt := (top 83)
theorem sc__law_ascii : FnScope ["text", "char"] ["text"] (defScope s__law_ascii) := ⟨rfl, rfl, rfl, by decide +kernel, rfl, by decide +kernel, by decide +kernel⟩
abbrev s__law_letter : Stmt := (top 85)
theorem sc__law_letter : FnScope ["octet"] ["octet"] (defScope s__law_letter) := ⟨rfl, rfl, rfl, by decide +kernel, rfl, by decide +kernel, by decide +kernel⟩
abbrev s__law_in_token : Stmt := (top 86)
theorem sc__law_in_token : FnScope ["octet"] ["octet"] (defScope s__law_in_token) := ⟨rfl, rfl, rfl, by decide +kernel, rfl, by decide +kernel, by decide +kernel⟩
abbrev s__law_is_token : Stmt := (top 87)
theorem sc__law_is_token : FnScope ["octets", "octet"] ["octets"] (defScope s__law_is_token) := ⟨rfl, rfl, rfl, by decide +kernel, rfl, by decide +kernel, by decide +kernel⟩
abbrev s__law_atom : Stmt := (top 92)
theorem sc__law_atom : FnScope ["octets", "found", "octet", "digits"] ["octets"] (defScope s__law_atom) := ⟨rfl, rfl, rfl, by decide +kernel, rfl, by decide +kernel, by decide +kernel⟩
abbrev s__law_loosely : Stmt := (top 93)
theorem sc__law_loosely : FnScope ["hall", "event", "space"] ["hall", "event"] (defScope s__law_loosely) := ⟨rfl, rfl, rfl, by decide +kernel, rfl, by decide +kernel, by decide +kernel⟩
abbrev s_law : Stmt := (top 94)
theorem sc_law : FnScope ["script", "state", "odd", "has_maps", "value", "events", "writer", "other", "hall", "octets", "rows", "kept", "begun", "k", "event", "told", "due", "half"] ["script"] (defScope s_law) := ⟨rfl, rfl, rfl, by decide +kernel, rfl, by decide +kernel, by decide +kernel⟩
def d_Begun___init__ : DefM := { ad := meAd "Begun" "__init__", nm := "__init__", ql := "Begun.__init__", pa := defArgs s_Begun___init__, bo := defBody s_Begun___init__, sc := defScope s_Begun___init__ }
def d_SexpLoose___init__ : DefM := { ad := meAd "SexpLoose" "__init__", nm := "__init__", ql := "SexpLoose.__init__", pa := defArgs s_SexpLoose___init__, bo := defBody s_SexpLoose___init__, sc := defScope s_SexpLoose___init__ }
def d__law_cell : DefM := { ad := glAd "_law_cell", nm := "_law_cell", ql := "_law_cell", pa := defArgs s__law_cell, bo := defBody s__law_cell, sc := defScope s__law_cell }
def d__law_numbers : DefM := { ad := glAd "_law_numbers", nm := "_law_numbers", ql := "_law_numbers", pa := defArgs s__law_numbers, bo := defBody s__law_numbers, sc := defScope s__law_numbers }
def d__law_state : DefM := { ad := glAd "_law_state", nm := "_law_state", ql := "_law_state", pa := defArgs s__law_state, bo := defBody s__law_state, sc := defScope s__law_state }
def d__law_next : DefM := { ad := glAd "_law_next", nm := "_law_next", ql := "_law_next", pa := defArgs s__law_next, bo := defBody s__law_next, sc := defScope s__law_next }
def d__law_many : DefM := { ad := glAd "_law_many", nm := "_law_many", ql := "_law_many", pa := defArgs s__law_many, bo := defBody s__law_many, sc := defScope s__law_many }
def d__law_points : DefM := { ad := glAd "_law_points", nm := "_law_points", ql := "_law_points", pa := defArgs s__law_points, bo := defBody s__law_points, sc := defScope s__law_points }
def d__law_octets : DefM := { ad := glAd "_law_octets", nm := "_law_octets", ql := "_law_octets", pa := defArgs s__law_octets, bo := defBody s__law_octets, sc := defScope s__law_octets }
def d__law_leaf : DefM := { ad := glAd "_law_leaf", nm := "_law_leaf", ql := "_law_leaf", pa := defArgs s__law_leaf, bo := defBody s__law_leaf, sc := defScope s__law_leaf }
def d__law_value : DefM := { ad := glAd "_law_value", nm := "_law_value", ql := "_law_value", pa := defArgs s__law_value, bo := defBody s__law_value, sc := defScope s__law_value }
def d__law_towered : DefM := { ad := glAd "_law_towered", nm := "_law_towered", ql := "_law_towered", pa := defArgs s__law_towered, bo := defBody s__law_towered, sc := defScope s__law_towered }
def d__law_same : DefM := { ad := glAd "_law_same", nm := "_law_same", ql := "_law_same", pa := defArgs s__law_same, bo := defBody s__law_same, sc := defScope s__law_same }
def d__law_mixed : DefM := { ad := glAd "_law_mixed", nm := "_law_mixed", ql := "_law_mixed", pa := defArgs s__law_mixed, bo := defBody s__law_mixed, sc := defScope s__law_mixed }
def d__law_events : DefM := { ad := glAd "_law_events", nm := "_law_events", ql := "_law_events", pa := defArgs s__law_events, bo := defBody s__law_events, sc := defScope s__law_events }
def d_AlikeError___init__ : DefM := { ad := meAd "AlikeError" "__init__", nm := "__init__", ql := "AlikeError.__init__", pa := defArgs s_AlikeError___init__, bo := defBody s_AlikeError___init__, sc := defScope s_AlikeError___init__, df := [.non] }
def d_is_lacking : DefM := { ad := glAd "is_lacking", nm := "is_lacking", ql := "is_lacking", pa := defArgs s_is_lacking, bo := defBody s_is_lacking, sc := defScope s_is_lacking }
def d_Begun__count : DefM := { ad := meAd "Begun" "_count", nm := "_count", ql := "Begun._count", pa := defArgs s_Begun__count, bo := defBody s_Begun__count, sc := defScope s_Begun__count }
def d_Begun_note : DefM := { ad := meAd "Begun" "note", nm := "note", ql := "Begun.note", pa := defArgs s_Begun_note, bo := defBody s_Begun_note, sc := defScope s_Begun_note }
def d_begins_token : DefM := { ad := glAd "begins_token", nm := "begins_token", ql := "begins_token", pa := defArgs s_begins_token, bo := defBody s_begins_token, sc := defScope s_begins_token }
def d_is_digit : DefM := { ad := glAd "is_digit", nm := "is_digit", ql := "is_digit", pa := defArgs s_is_digit, bo := defBody s_is_digit, sc := defScope s_is_digit }
def d_goes_on_token : DefM := { ad := glAd "goes_on_token", nm := "goes_on_token", ql := "goes_on_token", pa := defArgs s_goes_on_token, bo := defBody s_goes_on_token, sc := defScope s_goes_on_token }
def d__can_be_token : DefM := { ad := glAd "_can_be_token", nm := "_can_be_token", ql := "_can_be_token", pa := defArgs s__can_be_token, bo := defBody s__can_be_token, sc := defScope s__can_be_token }
def d__quoted : DefM := { ad := glAd "_quoted", nm := "_quoted", ql := "_quoted", pa := defArgs s__quoted, bo := defBody s__quoted, sc := defScope s__quoted }
def d_in_ascii : DefM := { ad := glAd "in_ascii", nm := "in_ascii", ql := "in_ascii", pa := defArgs s_in_ascii, bo := defBody s_in_ascii, sc := defScope s_in_ascii }
def d_hex_digits : DefM := { ad := glAd "hex_digits", nm := "hex_digits", ql := "hex_digits", pa := defArgs s_hex_digits, bo := defBody s_hex_digits, sc := defScope s_hex_digits }
def d__hexadecimal : DefM := { ad := glAd "_hexadecimal", nm := "_hexadecimal", ql := "_hexadecimal", pa := defArgs s__hexadecimal, bo := defBody s__hexadecimal, sc := defScope s__hexadecimal }
def d_loose_octets : DefM := { ad := glAd "loose_octets", nm := "loose_octets", ql := "loose_octets", pa := defArgs s_loose_octets, bo := defBody s_loose_octets, sc := defScope s_loose_octets }
def d_SexpLoose__before_item : DefM := { ad := meAd "SexpLoose" "_before_item", nm := "_before_item", ql := "SexpLoose._before_item", pa := defArgs s_SexpLoose__before_item, bo := defBody s_SexpLoose__before_item, sc := defScope s_SexpLoose__before_item }
def d_SexpLoose_take : DefM := { ad := meAd "SexpLoose" "take", nm := "take", ql := "SexpLoose.take", pa := defArgs s_SexpLoose_take, bo := defBody s_SexpLoose_take, sc := defScope s_SexpLoose_take }
def d__law_taken : DefM := { ad := glAd "_law_taken", nm := "_law_taken", ql := "_law_taken", pa := defArgs s__law_taken, bo := defBody s__law_taken, sc := defScope s__law_taken }
def d_Nest___init__ : DefM := { ad := meAd "Nest" "__init__", nm := "__init__", ql := "Nest.__init__", pa := defArgs s_Nest___init__, bo := defBody s_Nest___init__, sc := defScope s_Nest___init__ }
def d_SexpScanner___init__ : DefM := { ad := meAd "SexpScanner" "__init__", nm := "__init__", ql := "SexpScanner.__init__", pa := defArgs s_SexpScanner___init__, bo := defBody s_SexpScanner___init__, sc := defScope s_SexpScanner___init__ }
def d_Counted__take_in_count : DefM := { ad := meAd "Counted" "_take_in_count", nm := "_take_in_count", ql := "Counted._take_in_count", pa := defArgs s_Counted__take_in_count, bo := defBody s_Counted__take_in_count, sc := defScope s_Counted__take_in_count }
def d_Counted_take : DefM := { ad := meAd "Counted" "take", nm := "take", ql := "Counted.take", pa := defArgs s_Counted_take, bo := defBody s_Counted_take, sc := defScope s_Counted_take }
def d_SexpToken_take : DefM := { ad := meAd "SexpToken" "take", nm := "take", ql := "SexpToken.take", pa := defArgs s_SexpToken_take, bo := defBody s_SexpToken_take, sc := defScope s_SexpToken_take }
def d_hex_worth : DefM := { ad := glAd "hex_worth", nm := "hex_worth", ql := "hex_worth", pa := defArgs s_hex_worth, bo := defBody s_hex_worth, sc := defScope s_hex_worth }
def d_SexpHex__take_digit : DefM := { ad := meAd "SexpHex" "_take_digit", nm := "_take_digit", ql := "SexpHex._take_digit", pa := defArgs s_SexpHex__take_digit, bo := defBody s_SexpHex__take_digit, sc := defScope s_SexpHex__take_digit }
def d_SexpHex_take : DefM := { ad := meAd "SexpHex" "take", nm := "take", ql := "SexpHex.take", pa := defArgs s_SexpHex_take, bo := defBody s_SexpHex_take, sc := defScope s_SexpHex_take }
def d_Base64_is_whole : DefM := { ad := prAd "Base64" "is_whole", nm := "is_whole", ql := "Base64.is_whole", pa := defArgs s_Base64_is_whole, bo := defBody s_Base64_is_whole, sc := defScope s_Base64_is_whole }
def d__worth_of : DefM := { ad := glAd "_worth_of", nm := "_worth_of", ql := "_worth_of", pa := defArgs s__worth_of, bo := defBody s__worth_of, sc := defScope s__worth_of }
def d_Base64__take_pad : DefM := { ad := meAd "Base64" "_take_pad", nm := "_take_pad", ql := "Base64._take_pad", pa := defArgs s_Base64__take_pad, bo := defBody s_Base64__take_pad, sc := defScope s_Base64__take_pad }
def d_Base64__take_digit : DefM := { ad := meAd "Base64" "_take_digit", nm := "_take_digit", ql := "Base64._take_digit", pa := defArgs s_Base64__take_digit, bo := defBody s_Base64__take_digit, sc := defScope s_Base64__take_digit }
def d_Base64_take : DefM := { ad := meAd "Base64" "take", nm := "take", ql := "Base64.take", pa := defArgs s_Base64_take, bo := defBody s_Base64_take, sc := defScope s_Base64_take }
def d_SexpBase64_take : DefM := { ad := meAd "SexpBase64" "take", nm := "take", ql := "SexpBase64.take", pa := defArgs s_SexpBase64_take, bo := defBody s_SexpBase64_take, sc := defScope s_SexpBase64_take }
def d_SexpEscape___init__ : DefM := { ad := meAd "SexpEscape" "__init__", nm := "__init__", ql := "SexpEscape.__init__", pa := defArgs s_SexpEscape___init__, bo := defBody s_SexpEscape___init__, sc := defScope s_SexpEscape___init__ }
def d_SexpEscape__take_digit : DefM := { ad := meAd "SexpEscape" "_take_digit", nm := "_take_digit", ql := "SexpEscape._take_digit", pa := defArgs s_SexpEscape__take_digit, bo := defBody s_SexpEscape__take_digit, sc := defScope s_SexpEscape__take_digit }
def d_SexpEscape__take_first : DefM := { ad := meAd "SexpEscape" "_take_first", nm := "_take_first", ql := "SexpEscape._take_first", pa := defArgs s_SexpEscape__take_first, bo := defBody s_SexpEscape__take_first, sc := defScope s_SexpEscape__take_first }
def d_SexpEscape_take : DefM := { ad := meAd "SexpEscape" "take", nm := "take", ql := "SexpEscape.take", pa := defArgs s_SexpEscape_take, bo := defBody s_SexpEscape_take, sc := defScope s_SexpEscape_take }
def d_SexpQuoted__take_in_escape : DefM := { ad := meAd "SexpQuoted" "_take_in_escape", nm := "_take_in_escape", ql := "SexpQuoted._take_in_escape", pa := defArgs s_SexpQuoted__take_in_escape, bo := defBody s_SexpQuoted__take_in_escape, sc := defScope s_SexpQuoted__take_in_escape }
def d_SexpQuoted_take : DefM := { ad := meAd "SexpQuoted" "take", nm := "take", ql := "SexpQuoted.take", pa := defArgs s_SexpQuoted_take, bo := defBody s_SexpQuoted_take, sc := defScope s_SexpQuoted_take }
def d_Counted_leaf : DefM := { ad := meAd "Counted" "leaf", nm := "leaf", ql := "Counted.leaf", pa := defArgs s_Counted_leaf, bo := defBody s_Counted_leaf, sc := defScope s_Counted_leaf }
def d_SexpToken_leaf : DefM := { ad := meAd "SexpToken" "leaf", nm := "leaf", ql := "SexpToken.leaf", pa := defArgs s_SexpToken_leaf, bo := defBody s_SexpToken_leaf, sc := defScope s_SexpToken_leaf }
def d_SexpHex_leaf : DefM := { ad := meAd "SexpHex" "leaf", nm := "leaf", ql := "SexpHex.leaf", pa := defArgs s_SexpHex_leaf, bo := defBody s_SexpHex_leaf, sc := defScope s_SexpHex_leaf }
def d_SexpBase64_leaf : DefM := { ad := meAd "SexpBase64" "leaf", nm := "leaf", ql := "SexpBase64.leaf", pa := defArgs s_SexpBase64_leaf, bo := defBody s_SexpBase64_leaf, sc := defScope s_SexpBase64_leaf }
def d_SexpQuoted_leaf : DefM := { ad := meAd "SexpQuoted" "leaf", nm := "leaf", ql := "SexpQuoted.leaf", pa := defArgs s_SexpQuoted_leaf, bo := defBody s_SexpQuoted_leaf, sc := defScope s_SexpQuoted_leaf }
def d_Nest_inner : DefM := { ad := meAd "Nest" "inner", nm := "inner", ql := "Nest.inner", pa := defArgs s_Nest_inner, bo := defBody s_Nest_inner, sc := defScope s_Nest_inner }
def d_SexpScanner__end_value : DefM := { ad := meAd "SexpScanner" "_end_value", nm := "_end_value", ql := "SexpScanner._end_value", pa := defArgs s_SexpScanner__end_value, bo := defBody s_SexpScanner__end_value, sc := defScope s_SexpScanner__end_value }
def d_SexpScanner__end_atom : DefM := { ad := meAd "SexpScanner" "_end_atom", nm := "_end_atom", ql := "SexpScanner._end_atom", pa := defArgs s_SexpScanner__end_atom, bo := defBody s_SexpScanner__end_atom, sc := defScope s_SexpScanner__end_atom }
def d_SexpScanner__go_on : DefM := { ad := meAd "SexpScanner" "_go_on", nm := "_go_on", ql := "SexpScanner._go_on", pa := defArgs s_SexpScanner__go_on, bo := defBody s_SexpScanner__go_on, sc := defScope s_SexpScanner__go_on }
def d_Nest_grow : DefM := { ad := meAd "Nest" "grow", nm := "grow", ql := "Nest.grow", pa := defArgs s_Nest_grow, bo := defBody s_Nest_grow, sc := defScope s_Nest_grow }
def d_Counted___init__ : DefM := { ad := meAd "Counted" "__init__", nm := "__init__", ql := "Counted.__init__", pa := defArgs s_Counted___init__, bo := defBody s_Counted___init__, sc := defScope s_Counted___init__ }
def d_SexpToken___init__ : DefM := { ad := meAd "SexpToken" "__init__", nm := "__init__", ql := "SexpToken.__init__", pa := defArgs s_SexpToken___init__, bo := defBody s_SexpToken___init__, sc := defScope s_SexpToken___init__ }
def d_SexpHex___init__ : DefM := { ad := meAd "SexpHex" "__init__", nm := "__init__", ql := "SexpHex.__init__", pa := defArgs s_SexpHex___init__, bo := defBody s_SexpHex___init__, sc := defScope s_SexpHex___init__ }
def d_Base64___init__ : DefM := { ad := meAd "Base64" "__init__", nm := "__init__", ql := "Base64.__init__", pa := defArgs s_Base64___init__, bo := defBody s_Base64___init__, sc := defScope s_Base64___init__ }
def d_SexpBase64___init__ : DefM := { ad := meAd "SexpBase64" "__init__", nm := "__init__", ql := "SexpBase64.__init__", pa := defArgs s_SexpBase64___init__, bo := defBody s_SexpBase64___init__, sc := defScope s_SexpBase64___init__ }
def d_SexpQuoted___init__ : DefM := { ad := meAd "SexpQuoted" "__init__", nm := "__init__", ql := "SexpQuoted.__init__", pa := defArgs s_SexpQuoted___init__, bo := defBody s_SexpQuoted___init__, sc := defScope s_SexpQuoted___init__ }
def d__atom_of : DefM := { ad := glAd "_atom_of", nm := "_atom_of", ql := "_atom_of", pa := defArgs s__atom_of, bo := defBody s__atom_of, sc := defScope s__atom_of }
def d_Nest_shrink : DefM := { ad := meAd "Nest" "shrink", nm := "shrink", ql := "Nest.shrink", pa := defArgs s_Nest_shrink, bo := defBody s_Nest_shrink, sc := defScope s_Nest_shrink }
def d_SexpScanner__close : DefM := { ad := meAd "SexpScanner" "_close", nm := "_close", ql := "SexpScanner._close", pa := defArgs s_SexpScanner__close, bo := defBody s_SexpScanner__close, sc := defScope s_SexpScanner__close }
def d_SexpScanner__take_mark : DefM := { ad := meAd "SexpScanner" "_take_mark", nm := "_take_mark", ql := "SexpScanner._take_mark", pa := defArgs s_SexpScanner__take_mark, bo := defBody s_SexpScanner__take_mark, sc := defScope s_SexpScanner__take_mark }
def d_SexpScanner_step : DefM := { ad := meAd "SexpScanner" "step", nm := "step", ql := "SexpScanner.step", pa := defArgs s_SexpScanner_step, bo := defBody s_SexpScanner_step, sc := defScope s_SexpScanner_step }
def d_SexpScanner_end : DefM := { ad := meAd "SexpScanner" "end", nm := "end", ql := "SexpScanner.end", pa := defArgs s_SexpScanner_end, bo := defBody s_SexpScanner_end, sc := defScope s_SexpScanner_end }
def d_Builder___init__ : DefM := { ad := meAd "Builder" "__init__", nm := "__init__", ql := "Builder.__init__", pa := defArgs s_Builder___init__, bo := defBody s_Builder___init__, sc := defScope s_Builder___init__ }
def d_Frame___init__ : DefM := { ad := meAd "Frame" "__init__", nm := "__init__", ql := "Frame.__init__", pa := defArgs s_Frame___init__, bo := defBody s_Frame___init__, sc := defScope s_Frame___init__ }
def d_list_of : DefM := { ad := glAd "list_of", nm := "list_of", ql := "list_of", pa := defArgs s_list_of, bo := defBody s_list_of, sc := defScope s_list_of }
def d_map_of : DefM := { ad := glAd "map_of", nm := "map_of", ql := "map_of", pa := defArgs s_map_of, bo := defBody s_map_of, sc := defScope s_map_of }
def d_Frame_built : DefM := { ad := meAd "Frame" "built", nm := "built", ql := "Frame.built", pa := defArgs s_Frame_built, bo := defBody s_Frame_built, sc := defScope s_Frame_built }
def d_Frame_put : DefM := { ad := meAd "Frame" "put", nm := "put", ql := "Frame.put", pa := defArgs s_Frame_put, bo := defBody s_Frame_put, sc := defScope s_Frame_put }
def d_Builder__put : DefM := { ad := meAd "Builder" "_put", nm := "_put", ql := "Builder._put", pa := defArgs s_Builder__put, bo := defBody s_Builder__put, sc := defScope s_Builder__put }
def d_Builder_take : DefM := { ad := meAd "Builder" "take", nm := "take", ql := "Builder.take", pa := defArgs s_Builder_take, bo := defBody s_Builder_take, sc := defScope s_Builder_take }
def d__take_all : DefM := { ad := glAd "_take_all", nm := "_take_all", ql := "_take_all", pa := defArgs s__take_all, bo := defBody s__take_all, sc := defScope s__take_all }
def d_value_of_text : DefM := { ad := glAd "value_of_text", nm := "value_of_text", ql := "value_of_text", pa := defArgs s_value_of_text, bo := defBody s_value_of_text, sc := defScope s_value_of_text }
def d_read_sexp : DefM := { ad := glAd "read_sexp", nm := "read_sexp", ql := "read_sexp", pa := defArgs s_read_sexp, bo := defBody s_read_sexp, sc := defScope s_read_sexp }
def d__law_read : DefM := { ad := glAd "_law_read", nm := "_law_read", ql := "_law_read", pa := defArgs s__law_read, bo := defBody s__law_read, sc := defScope s__law_read }
def d__law_lacks : DefM := { ad := glAd "_law_lacks", nm := "_law_lacks", ql := "_law_lacks", pa := defArgs s__law_lacks, bo := defBody s__law_lacks, sc := defScope s__law_lacks }
def d__law_ascii : DefM := { ad := glAd "_law_ascii", nm := "_law_ascii", ql := "_law_ascii", pa := defArgs s__law_ascii, bo := defBody s__law_ascii, sc := defScope s__law_ascii }
def d__law_letter : DefM := { ad := glAd "_law_letter", nm := "_law_letter", ql := "_law_letter", pa := defArgs s__law_letter, bo := defBody s__law_letter, sc := defScope s__law_letter }
def d__law_in_token : DefM := { ad := glAd "_law_in_token", nm := "_law_in_token", ql := "_law_in_token", pa := defArgs s__law_in_token, bo := defBody s__law_in_token, sc := defScope s__law_in_token }
def d__law_is_token : DefM := { ad := glAd "_law_is_token", nm := "_law_is_token", ql := "_law_is_token", pa := defArgs s__law_is_token, bo := defBody s__law_is_token, sc := defScope s__law_is_token }
def d__law_atom : DefM := { ad := glAd "_law_atom", nm := "_law_atom", ql := "_law_atom", pa := defArgs s__law_atom, bo := defBody s__law_atom, sc := defScope s__law_atom }
def d__law_loosely : DefM := { ad := glAd "_law_loosely", nm := "_law_loosely", ql := "_law_loosely", pa := defArgs s__law_loosely, bo := defBody s__law_loosely, sc := defScope s__law_loosely }
def d_law : DefM := { ad := glAd "law", nm := "law", ql := "law", pa := defArgs s_law, bo := defBody s_law, sc := defScope s_law }
def fn : List DefM := [d_Begun___init__, d_SexpLoose___init__, d__law_cell, d__law_numbers, d__law_state, d__law_next, d__law_many, d__law_points, d__law_octets, d__law_leaf, d__law_value, d__law_towered, d__law_same, d__law_mixed, d__law_events, d_AlikeError___init__, d_is_lacking, d_Begun__count, d_Begun_note, d_begins_token, d_is_digit, d_goes_on_token, d__can_be_token, d__quoted, d_in_ascii, d_hex_digits, d__hexadecimal, d_loose_octets, d_SexpLoose__before_item, d_SexpLoose_take, d__law_taken, d_Nest___init__, d_SexpScanner___init__, d_Counted__take_in_count, d_Counted_take, d_SexpToken_take, d_hex_worth, d_SexpHex__take_digit, d_SexpHex_take, d_Base64_is_whole, d__worth_of, d_Base64__take_pad, d_Base64__take_digit, d_Base64_take, d_SexpBase64_take, d_SexpEscape___init__, d_SexpEscape__take_digit, d_SexpEscape__take_first, d_SexpEscape_take, d_SexpQuoted__take_in_escape, d_SexpQuoted_take, d_Counted_leaf, d_SexpToken_leaf, d_SexpHex_leaf, d_SexpBase64_leaf, d_SexpQuoted_leaf, d_Nest_inner, d_SexpScanner__end_value, d_SexpScanner__end_atom, d_SexpScanner__go_on, d_Nest_grow, d_Counted___init__, d_SexpToken___init__, d_SexpHex___init__, d_Base64___init__, d_SexpBase64___init__, d_SexpQuoted___init__, d__atom_of, d_Nest_shrink, d_SexpScanner__close, d_SexpScanner__take_mark, d_SexpScanner_step, d_SexpScanner_end, d_Builder___init__, d_Frame___init__, d_list_of, d_map_of, d_Frame_built, d_Frame_put, d_Builder__put, d_Builder_take, d__take_all, d_value_of_text, d_read_sexp, d__law_read, d__law_lacks, d__law_ascii, d__law_letter, d__law_in_token, d__law_is_token, d__law_atom, d__law_loosely, d_law]
def fa : List He.Fa := [.glo "_law_cell", .glo "_law_numbers", .glo "_law_state", .glo "_law_next", .glo "_law_many", .glo "_law_points", .glo "_law_octets", .glo "_law_leaf", .glo "_law_value", .glo "_law_towered", .glo "_law_same", .glo "_law_mixed", .glo "_law_events", .glo "is_lacking", .glo "begins_token", .glo "is_digit", .glo "goes_on_token", .glo "_can_be_token", .glo "_quoted", .glo "in_ascii", .glo "hex_digits", .glo "_hexadecimal", .glo "loose_octets", .glo "_law_taken", .glo "hex_worth", .glo "_worth_of", .glo "_atom_of", .glo "list_of", .glo "map_of", .glo "_take_all", .glo "value_of_text", .glo "read_sexp", .glo "_law_read", .glo "_law_lacks", .glo "_law_ascii", .glo "_law_letter", .glo "_law_in_token", .glo "_law_is_token", .glo "_law_atom", .glo "_law_loosely", .glo "law", .free "tuple", .free "sorted", .free "divmod", .free "list", .free "all", .free "len", .free "abs", .free "range", .free "int", .free "isinstance", .free "bool", .free "str", .free "ord", .int "ZERO" 48, .int "NINE" 57, .int "COLON" 58, .int "PAD" 61, .int "HASH" 35, .int "BAR" 124, .int "FIRST_PLAIN" 32, .int "LAST_PLAIN" 126, .int "QUOTE" 34, .int "BACKSLASH" 92, .int "CLOSES" 41, .int "OPENS" 40, .int "SPACE" 32, .int "DEEPEST" 24, .int "SMALL_X" 120, .glo "SHORT_ESCAPES", .int "LINE_FEED" 10, .glo "Doubled", .glo "Unwritable", .glo "Unreadable", .glo "AlikeError", .glo "is_lacking", .cls "Begun", .glo "Begun", .mkr "Begun", .noat "Begun" "_many", .meth "Begun" "note", .meth "Begun" "_count", .cls "Counted", .glo "Counted", .mkr "Counted", .noat "Counted" "is_done", .noat "Counted" "can_end", .noat "Counted" "has_begun", .noat "Counted" "octets", .noat "Counted" "_missing", .meth "Counted" "take", .meth "Counted" "_take_in_count", .meth "Counted" "leaf", .cls "Base64", .glo "Base64", .mkr "Base64", .noat "Base64" "octets", .noat "Base64" "_digits", .noat "Base64" "_pads", .noat "Base64" "_rest", .meth "Base64" "take", .meth "Base64" "_take_pad", .meth "Base64" "_take_digit", .cls "SexpToken", .glo "SexpToken", .mkr "SexpToken", .noat "SexpToken" "is_done", .noat "SexpToken" "can_end", .noat "SexpToken" "_octets", .meth "SexpToken" "take", .meth "SexpToken" "leaf", .cls "SexpHex", .glo "SexpHex", .mkr "SexpHex", .noat "SexpHex" "is_done", .noat "SexpHex" "can_end", .noat "SexpHex" "_octets", .noat "SexpHex" "_first", .meth "SexpHex" "take", .meth "SexpHex" "_take_digit", .meth "SexpHex" "leaf", .cls "SexpBase64", .glo "SexpBase64", .mkr "SexpBase64", .noat "SexpBase64" "is_done", .noat "SexpBase64" "can_end", .noat "SexpBase64" "_base64", .meth "SexpBase64" "take", .meth "SexpBase64" "leaf", .cls "SexpLoose", .glo "SexpLoose", .mkr "SexpLoose", .noat "SexpLoose" "_begun", .noat "SexpLoose" "_are_empty", .meth "SexpLoose" "take", .meth "SexpLoose" "_before_item", .cls "Nest", .glo "Nest", .mkr "Nest", .noat "Nest" "_levels", .meth "Nest" "inner", .meth "Nest" "grow", .meth "Nest" "shrink", .meth "Nest" "note_key", .cls "SexpEscape", .glo "SexpEscape", .mkr "SexpEscape", .noat "SexpEscape" "is_done", .noat "SexpEscape" "octet", .noat "SexpEscape" "_base", .noat "SexpEscape" "_missing", .noat "SexpEscape" "_worth", .meth "SexpEscape" "take", .meth "SexpEscape" "_take_first", .meth "SexpEscape" "_take_digit", .cls "SexpQuoted", .glo "SexpQuoted", .mkr "SexpQuoted", .noat "SexpQuoted" "is_done", .noat "SexpQuoted" "can_end", .noat "SexpQuoted" "_octets", .noat "SexpQuoted" "_escape", .meth "SexpQuoted" "take", .meth "SexpQuoted" "_take_in_escape", .meth "SexpQuoted" "leaf", .cls "SexpScanner", .glo "SexpScanner", .mkr "SexpScanner", .noat "SexpScanner" "_place", .noat "SexpScanner" "_is_over", .noat "SexpScanner" "_nest", .noat "SexpScanner" "_atom", .meth "SexpScanner" "step", .meth "SexpScanner" "end", .meth "SexpScanner" "_go_on", .meth "SexpScanner" "_end_atom", .meth "SexpScanner" "_end_value", .meth "SexpScanner" "_take_mark", .meth "SexpScanner" "_close", .cls "Frame", .glo "Frame", .mkr "Frame", .noat "Frame" "kind", .noat "Frame" "key", .noat "Frame" "inside", .meth "Frame" "put", .meth "Frame" "built", .cls "Builder", .glo "Builder", .mkr "Builder", .noat "Builder" "is_done", .noat "Builder" "value", .noat "Builder" "_frames", .meth "Builder" "take", .meth "Builder" "_put"]
def ex (K : Frg) : Bool := conB K "ROWS" (.tuple [.tuple [.int 65, .int 90, .int 0], .tuple [.int 97, .int 122, .int 26], .tuple [.int 48, .int 57, .int 52], .tuple [.int 43, .int 43, .int 62], .tuple [.int 47, .int 47, .int 63]]) && (conB K "TOKEN_MARKS" (.tuple [.int 45, .int 46, .int 47, .int 95, .int 58, .int 42, .int 43, .int 61]) && (conB K "WHITESPACE" (.tuple [.int 32, .int 9, .int 10, .int 11, .int 12, .int 13]) && (exkB K (He.ga K "Doubled") (meAd "AlikeError" "__init__" K) "what" && (exkB K (He.ga K "Unwritable") (meAd "AlikeError" "__init__" K) "what" && (exkB K (He.ga K "Unreadable") (meAd "AlikeError" "__init__" K) "what" && (exkB K (He.ga K "AlikeError") (meAd "AlikeError" "__init__" K) "what" && (isxB K (He.ga K "Unwritable") && (decide (PySem.W.exmOne K (.ref (He.ga K "Unwritable")) (.ref (He.ga K "AlikeError")) = some true) && (decide (PySem.W.kitOne K (.ref (He.ga K "Unwritable")) (.ref (He.ga K "Unreadable")) = some false) && (decide (PySem.W.kitOne K (.ref (He.ga K "Unwritable")) (.ref (He.ga K "Doubled")) = some false) && (decide (PySem.W.kitOne K (.ref (He.ga K "Unwritable")) (.ref (He.ga K "Unwritable")) = some true) && (prB K "Base64" "is_whole" && (digB K && (tabV K (He.ga K "SHORT_ESCAPES") [.int 8, .int 9, .int 11, .int 10, .int 12, .int 13, .int 34, .int 39, .int 92, .int 63]))))))))))))))
def ts : List TabX := [("SHORT_ESCAPES", ([.inl 98, .inl 116, .inl 118, .inl 110, .inl 102, .inl 114, .inl 34, .inl 39, .inl 92, .inl 63] : List Key).map Sum.inl)]
def al : List Addr := ([2, 3, 6, 4, 21, 39, 52, 64, 76, 85, 90, 121, 132, 137, 175, 186, 193, 199, 206, 252, 257, 258, 265, 272, 303, 345, 380, 391, 396, 401, 408, 415, 446, 495, 500, 538, 580, 591, 657, 692, 727, 738, 745, 752, 759, 766, 771, 778, 785, 792, 797, 804, 809, 816, 823, 828, 835, 842, 849, 854, 861, 868, 875, 882, 887, 894, 901, 0, 20, 38, 51, 63, 75, 84, 89, 120, 131, 136, 174, 185, 192, 194, 195, 196, 197, 198, 205, 251, 264, 271, 302, 344, 379, 390, 395, 400, 407, 414, 445, 494] : List Addr) ++ ([537, 579, 590, 656, 691, 726, 737, 744, 751, 758, 765, 770, 777, 784, 791, 796, 803, 808, 815, 822, 827, 834, 841, 848, 853, 860, 867, 874, 881, 886, 893, 900, 15, 16, 17, 18, 19, 36, 37, 40, 50, 62, 74, 79, 80, 81, 82, 83, 86, 87, 88, 104, 111, 118, 119, 122, 123, 126, 127, 128, 129, 130, 133, 134, 135, 151, 158, 165, 172, 173, 176, 177, 180, 181, 182, 183, 184, 187, 188, 189, 190, 191, 200, 201, 202, 203, 204, 220, 228, 235, 242, 249, 250, 253, 254, 259, 260, 261, 262, 263] : List Addr) ++ ([266, 267, 268, 269, 270, 286, 293, 300, 301, 304, 305, 321, 328, 335, 342, 343, 346, 347, 363, 370, 377, 378, 381, 382, 385, 386, 387, 388, 389, 392, 393, 394, 397, 398, 399, 402, 403, 404, 405, 406, 409, 410, 411, 412, 413, 429, 436, 443, 444, 447, 448, 464, 471, 478, 485, 492, 493, 496, 497, 514, 521, 528, 535, 536, 539, 540, 556, 563, 570, 577, 578, 581, 582, 585, 586, 587, 588, 589, 605, 612, 619, 626, 633, 640, 647, 654, 655, 658, 659, 675, 682, 689, 690, 693, 694, 710, 717, 724, 725, 728] : List Addr) ++ ([729, 732, 733, 734, 735, 736, 739, 740, 741, 742, 743, 746, 747, 748, 749, 750, 753, 754, 755, 756, 757, 760, 761, 762, 763, 764, 767, 768, 769, 772, 773, 774, 775, 776, 779, 780, 781, 782, 783, 786, 787, 788, 789, 790, 793, 794, 795, 798, 799, 800, 801, 802, 805, 806, 807, 810, 811, 812, 813, 814, 817, 818, 819, 820, 821, 824, 825, 826, 829, 830, 831, 832, 833, 836, 837, 838, 839, 840, 843, 844, 845, 846, 847, 850, 851, 852, 855, 856, 857, 858, 859, 862, 863, 864, 865, 866, 869, 870, 871, 872] : List Addr) ++ ([873, 876, 877, 878, 879, 880, 883, 884, 885, 888, 889, 890, 891, 892, 895, 896, 897, 898, 899, 35, 29, 103, 110, 117, 150, 157, 164, 171, 219, 227, 234, 241, 248, 285, 292, 299, 320, 327, 334, 341, 362, 369, 376, 428, 435, 442, 463, 470, 477, 484, 491, 513, 520, 527, 534, 555, 562, 569, 576, 604, 611, 618, 625, 632, 639, 646, 653, 674, 681, 688, 709, 716, 723, 30, 31, 32, 33, 34, 98, 99, 100, 101, 102, 105, 106, 107, 108, 109, 112, 113, 114, 115, 116, 145, 146, 147, 148, 149, 152, 153] : List Addr) ++ ([154, 155, 156, 159, 160, 161, 162, 163, 166, 167, 168, 169, 170, 214, 215, 216, 217, 218, 226, 229, 230, 231, 232, 233, 236, 237, 238, 239, 240, 243, 244, 245, 246, 247, 280, 281, 282, 283, 284, 287, 288, 289, 290, 291, 294, 295, 296, 297, 298, 315, 316, 317, 318, 319, 322, 323, 324, 325, 326, 329, 330, 331, 332, 333, 336, 337, 338, 339, 340, 357, 358, 359, 360, 361, 364, 365, 366, 367, 368, 371, 372, 373, 374, 375, 423, 424, 425, 426, 427, 430, 431, 432, 433, 434, 437, 438, 439, 440, 441, 458] : List Addr) ++ ([459, 460, 461, 462, 465, 466, 467, 468, 469, 472, 473, 474, 475, 476, 479, 480, 481, 482, 483, 486, 487, 488, 489, 490, 508, 509, 510, 511, 512, 515, 516, 517, 518, 519, 522, 523, 524, 525, 526, 529, 530, 531, 532, 533, 550, 551, 552, 553, 554, 557, 558, 559, 560, 561, 564, 565, 566, 567, 568, 571, 572, 573, 574, 575, 599, 600, 601, 602, 603, 606, 607, 608, 609, 610, 613, 614, 615, 616, 617, 620, 621, 622, 623, 624, 627, 628, 629, 630, 631, 634, 635, 636, 637, 638, 641, 642, 643, 644, 645, 648] : List Addr) ++ ([649, 650, 651, 652, 669, 670, 671, 672, 673, 676, 677, 678, 679, 680, 683, 684, 685, 686, 687, 704, 705, 706, 707, 708, 711, 712, 713, 714, 715, 718, 719, 720, 721, 722] : List Addr)
abbrev RR : PySem.W.OpenRow := PySem.W.OpenLaw.row PySem.Challenge.rw_formsalike_k48_sexp_loose
def loose : List PySem.Str := (["_wall", "AlikeError", "Unreadable", "Unwritable", "Doubled", "DEEPEST", "list_of", "map_of", "Begun", "ZERO", "NINE", "COLON", "is_digit", "in_ascii", "Counted", "hex_worth", "hex_digits", "PAD", "ROWS", "_worth_of", "Base64", "SPACE", "WHITESPACE", "OPENS", "CLOSES", "QUOTE", "BACKSLASH", "HASH", "BAR", "LINE_FEED"] : List PySem.Str) ++ (["FIRST_PLAIN", "LAST_PLAIN", "TOKEN_MARKS", "begins_token", "goes_on_token", "SexpToken", "SexpHex", "SexpBase64", "is_lacking", "loose_octets", "_can_be_token", "_quoted", "_hexadecimal", "SexpLoose", "Nest", "SHORT_ESCAPES", "SMALL_X", "SexpEscape", "SexpQuoted", "_atom_of", "SexpScanner", "Frame", "Builder", "value_of_text", "_take_all", "read_sexp", "_law_cell", "_law_numbers", "_law_state", "_law_next"] : List PySem.Str) ++ (["_law_many", "_law_points", "_law_octets", "_law_leaf", "_law_value", "_law_towered", "_law_mixed", "_law_ascii", "_law_same", "_law_letter", "_law_in_token", "_law_is_token", "_law_events", "_law_taken", "_law_read", "_law_lacks", "_law_atom", "_law_loosely"] : List PySem.Str)
abbrev hk : PySem.W.Hook := hookY al fa ex fn ts
def ob (s : PySem.W.SharedT) : AlX := obsX fa ex fn ts (He.frG (HandSHeadRun.getT s) al)
theorem ob_eq (s : PySem.W.SharedT) : ob s = hk.obs s.abs := obsY_eq (HandSHeadRun.getT_eq s)
theorem run_true (w : World) : HandSHeadRun.RunEq RR (PySem.W.view RR.prog [94]) hk ob 9000 loose (setF w true) := by
  intro os
  kernel_rfl
theorem run_false (w : World) : HandSHeadRun.RunEq RR (PySem.W.view RR.prog [94]) hk ob 9000 loose (setF w false) := by
  intro os
  kernel_rfl
theorem run (w : World) : HandSHeadRun.RunEq RR (PySem.W.view RR.prog [94]) hk ob 9000 loose w := by
  rw [← setF_eq w]
  generalize w.params.followText "special-get-raises" = b
  cases b
  · exact run_false w
  · exact run_true w


/-! ### numbers by powers of ten -/
theorem pow_bits {b : Int} (hb : b.natAbs < 16) (c : Nat) : (b ^ c).natAbs < 2 ^ (4 * c + 1) := by
  rw [Int.natAbs_pow]
  have h1 : b.natAbs ^ c ≤ 16 ^ c := Nat.pow_le_pow_left (by omega) c
  have h2 : (16 : Nat) ^ c = 2 ^ (4 * c) := by
    rw [Nat.pow_mul]
  have h3 : (2 : Nat) ^ (4 * c) < 2 ^ (4 * c + 1) := Nat.pow_lt_pow_right (by decide) (by omega)
  omega
theorem bits10 (n : Nat) : (10 : Int) ^ n < 2 ^ (4 * n + 1) := by
  have h := pow_bits (b := 10) (by decide) n
  have e : ((10 : Int) ^ n).natAbs = 10 ^ n := by rw [Int.natAbs_pow]; rfl
  rw [e] at h
  have h2 : ((10 ^ n : Nat) : Int) < ((2 ^ (4 * n + 1) : Nat) : Int) := Int.ofNat_lt.mpr h
  rw [Int.natCast_pow, Int.natCast_pow] at h2
  exact h2
theorem abs10 {x : Int} {n : Nat} (h : x.natAbs < 10 ^ n) : x.natAbs < 2 ^ (4 * n + 1) := by
  have h1 := pow_bits (b := 10) (by decide) n
  have e : ((10 : Int) ^ n).natAbs = 10 ^ n := by rw [Int.natAbs_pow]; rfl
  rw [e] at h1
  omega
theorem abs_mul10 {x y : Int} {a b : Nat} (h1 : x.natAbs < 10 ^ a) (h2 : y.natAbs < 10 ^ b) : (x * y).natAbs < 10 ^ (a + b) := by
  rw [Int.natAbs_mul, Nat.pow_add]
  exact Nat.mul_lt_mul'' h1 h2
theorem natAbs10 (n : Nat) : ((10 : Int) ^ n).natAbs = 10 ^ n := by rw [Int.natAbs_pow]; rfl
theorem pow10_le {a b : Nat} (h : a ≤ b) : (10 : Nat) ^ a ≤ 10 ^ b := Nat.pow_le_pow_right (by decide) h
def sp_law (K : PySem.W.Frag) : Sp := sp1 fun a H Q _ => ∃ (sl : Addr) (ns : List Int), a = .ref sl ∧ SqL K H sl (ns.map V.int) ∧ ∀ H', Q (.bl true) H'

/-! ### the law's state: a list of drawn numbers, its place, and the script; every draw is any number below its bound -/
structure SC where
  a : Addr
  nl : Addr
  sl : Addr
  nums : List Int
  ns : List Int
structure LS (K : PySem.W.Frag) (S : SC) (H : Hp) : Prop where
  st : ∃ k l f : Int, H S.a = some (.lst [.ref S.nl, .int k, .int l, .ref S.sl, .int f])
  nm : H S.nl = some (.lst (S.nums.map V.int))
  len : S.nums.length = 120
  ne : S.nl ≠ S.a
  scr : SqL K H S.sl (S.ns.map V.int)
/-- all but the state's own list stays -/
def Keep (S : SC) (H H' : Hp) : Prop := ∀ b o, b ≠ S.a → H b = some o → H' b = some o
theorem Keep.refl (S : SC) (H : Hp) : Keep S H H := fun _ _ _ h => h
theorem Keep.trans {S : SC} {H H1 H2 : Hp} (a : Keep S H H1) (b : Keep S H1 H2) : Keep S H H2 := fun c o n h => b c o n (a c o n h)
theorem Keep.of {S : SC} {H H' : Hp} (h : Same H H') : Keep S H H' := fun b o _ q => h b o q
section
variable {K : PySem.W.Frag} {S : SC} {H H' : Hp}
theorem LS.same (L : LS K S H) (h : Same H H') : LS K S H' := by
  obtain ⟨⟨k, l, f, e⟩, h2, h3, h4, h5⟩ := L
  exact ⟨⟨k, l, f, h _ _ e⟩, h _ _ h2, h3, h4, h.seq h5⟩
theorem LS.new (L : LS K S H) {p : Addr} (h : H p = none) (o : HO) : LS K S (upd H p o) := L.same (same_upd h o)
theorem LS.put (L : LS K S H) (k l f : Int) : LS K S (upd H S.a (.lst [.ref S.nl, .int k, .int l, .ref S.sl, .int f])) := by
  obtain ⟨⟨k', l', f', e⟩, h2, h3, h4, h5⟩ := L
  refine ⟨⟨k, l, f, upd_same⟩, (upd_ne h4).trans h2, h3, h4, ?_⟩
  rcases h5 with (h | ⟨o, h⟩) | h
  · refine .inl (.inl ((upd_ne fun q => ?_).trans h))
    rw [q, e] at h
    injection h with h
    injection h with h
    cases hn : S.ns with
    | nil =>
      rw [hn] at h
      cases h
    | cons x r =>
      rw [hn] at h
      cases h
  · refine .inl (.inr ⟨o, (upd_ne fun q => ?_).trans h⟩)
    rw [q, e] at h
    cases h
  · exact .inr h
theorem Keep.put (o : HO) : Keep S H (upd H S.a o) := fun b u n h => (upd_ne n).trans h
/-- an address that is free later was free before -/
theorem Keep.free (h : Keep S H H') (L : LS K S H') {p : Addr} (hp : H' p = none) : H p = none := by
  have n : p ≠ S.a := fun e => by
    obtain ⟨k, l, f, q⟩ := L.st
    rw [e, q] at hp
    cases hp
  cases e : H p with
  | none => rfl
  | some o =>
    rw [h p o n e] at hp
    cases hp
theorem LS.ne_free (L : LS K S H) {p : Addr} (hp : H p = none) : p ≠ S.a := fun e => by
  obtain ⟨k, l, f, q⟩ := L.st
  rw [e, q] at hp
  cases hp
end
/-- the state with what is left of its budget -/
structure LB (K : PySem.W.Frag) (S : SC) (l : Int) (H : Hp) : Prop where
  ls : LS K S H
  at_ : ∃ k f : Int, H S.a = some (.lst [.ref S.nl, .int k, .int l, .ref S.sl, .int f])
section
variable {K : PySem.W.Frag} {S : SC} {l : Int} {H H' : Hp}
theorem LB.same (L : LB K S l H) (h : Same H H') : LB K S l H' := by
  obtain ⟨h1, k, f, e⟩ := L
  exact ⟨h1.same h, k, f, h _ _ e⟩
theorem LB.new (L : LB K S l H) {p : Addr} (h : H p = none) (o : HO) : LB K S l (upd H p o) := L.same (same_upd h o)
theorem LB.put (L : LB K S l H) (k l' f : Int) : LB K S l' (upd H S.a (.lst [.ref S.nl, .int k, .int l', .ref S.sl, .int f])) := ⟨L.ls.put k l' f, k, f, upd_same⟩
theorem LB.ne_free (L : LB K S l H) {p : Addr} (hp : H p = none) : p ≠ S.a := L.ls.ne_free hp
theorem LB.noTup (L : LB K S l H) {a : Addr} {xs : List V} (h : H a = some (.tup xs)) : a ≠ S.a := fun e => by
  obtain ⟨_, k, f, e'⟩ := L
  rw [e, e'] at h
  cases h
end




def sp__law_cell (K : PySem.W.Frag) : Sp := sp2 fun a b H Q _ => ∃ (sl : Addr) (ns : List Int) (k : Int), a = .ref sl ∧ b = .int k ∧ SqL K H sl (ns.map V.int) ∧ 0 ≤ k ∧ ∀ z : Int, Q (.int z) H
def sp__law_numbers : Sp := sp2 fun a b H Q _ => ∃ (z : Int) (n : Nat), a = .int z ∧ b = .int (n : Int) ∧ n ≤ 1000 ∧ ∀ (p : Addr) (xs : List Int), H p = none → xs.length = n → Q (.ref p) (upd H p (.lst (xs.map V.int)))
def sp__law_state (K : PySem.W.Frag) : Sp := sp2 fun a b H Q _ => ∃ (sl : Addr) (ns : List Int) (l : Int), a = .ref sl ∧ b = .int l ∧ SqL K H sl (ns.map V.int) ∧
  ∀ (S : SC) (H' : Hp), S.sl = sl → S.ns = ns → LB K S l H' → Same H H' → H S.a = none → Q (.ref S.a) H'
def sp__law_next (K : PySem.W.Frag) : Sp := sp2 fun a b H Q _ => ∃ (S : SC) (l : Int) (m : Int), a = .ref S.a ∧ b = .int m ∧ 0 < m ∧ LB K S l H ∧ ∀ (r : Int) (H' : Hp), 0 ≤ r → r < m → LB K S l H' → Keep S H H' → Q (.int r) H'
section
variable {P : Program} {w : World} {K : PySem.W.Frag} {mg : Str → Option Value} {base : Heap} {f : Addr} {fd : FuncData}
theorem ok__law_cell (F : FunD K "_law_cell" "_law_cell" (defArgs s__law_cell) (defBody s__law_cell) (defScope s__law_cell) [] [] (glAd "_law_cell" K) fd) (m : mg "_law_cell" = some (.ref (glAd "_law_cell" K))) (nb : Nm w K mg) : Cal P w K mg base 1 "_law_cell" (sp__law_cell K) [] := by
  refine calD F m sc__law_cell (fun _ _ _ _ _ _ us hl => match us, hl with | [_, _], _ => rfl) len2 (fun cdv A outer s H vs Q E hr h => ⟨_, (pss_cons (ps_if (pt_cmpR op_lt (pv 1) (pe_callB call_len_seq (by rfl) nb.len PySem.boot_len (pa_cons (pv 0) pa_nil)) (nomark _))
    (pss_one (ps_ret (pe_ix ix_list (pv 0) (pv 1) (fun _ _ => rfl))))
    pss_nil)
    (pss_one (ps_ret pe_int))), ?_⟩)
  obtain ⟨_, _, rfl, sl, ns, k, rfl, rfl, hs, h0, h⟩ := h
  walk_at "rd"
  refine ⟨_, _, rfl, .inl hs, ?_⟩
  walk_at "rd"
  refine r_ite (fun c => ?_) (fun c => ?_)
  · rw [List.length_map] at c
    obtain ⟨v, _, e⟩ := atI_ints h0 c
    walk_at "rd"
    exact r_ixL hs e (h v)
  · walk_at "rd"
    exact h 0
theorem ok__law_numbers (F : FunD K "_law_numbers" "_law_numbers" (defArgs s__law_numbers) (defBody s__law_numbers) (defScope s__law_numbers) [] [] (glAd "_law_numbers" K) fd) (m : mg "_law_numbers" = some (.ref (glAd "_law_numbers" K))) (nb : Nm w K mg) : Cal P w K mg base 1 "_law_numbers" sp__law_numbers [] := by
  refine calD F m sc__law_numbers (fun _ _ _ _ _ _ us hl => match us, hl with | [_, _], _ => rfl) len2 (fun cdv A outer s H vs Q E hr h => ⟨_, (pss_cons (ps_set (i := 2) sc__law_numbers.nd rfl (Or.inl rfl) (pe_callB call_abs (by rfl) nb.abs (by decide +kernel) (pa_cons (pv 0) pa_nil)))
    (pss_cons (ps_set (i := 3) sc__law_numbers.nd rfl (Or.inl rfl) (pv 2))
    (pss_cons (ps_set (i := 4) sc__law_numbers.nd rfl (Or.inl rfl) (pe_lst pa_nil))
    (pss_cons (ps_for PassesOwn.never rfl (pi_range1 rfl nb.range (pa_cons (pv 1) pa_nil)) (pg_name (i := 5) sc__law_numbers.nd rfl (Or.inl rfl))
    (pss_one (ps_if (PW.pt (pw_and (pt_cmpR op_ge (pv 3) (pe_op op_pow pe_int pe_int) (nomark _)) (pw_and1 (pt_cmpR op_gt (pv 2) pe_int (nomark _)))))
    (pss_cons (ps_expr (pe_bm PySem.F.plainAttrs_list PySem.F.slot_list_append PySem.F.type_list_append mt_append (pv 4) (pa_cons (pe_op op_mod (pe_callTy call_int1 (by rfl) nb.int (by decide +kernel) (pa_cons (pv 2) pa_nil)) pe_int) pa_nil)))
    (pss_one (ps_set (i := 2) sc__law_numbers.nd rfl (Or.inl rfl) (pe_op op_fdiv (pv 2) pe_int))))
    (pss_cons (ps_set (i := 6) sc__law_numbers.nd rfl (Or.inl rfl) (pe_op op_mod (pe_callTy call_int1 (by rfl) nb.int (by decide +kernel) (pa_cons (pe_op op_add (pe_op op_add (pe_op op_mul (pv 3) pe_int) (pe_op op_mul (pv 5) pe_int)) pe_int) pa_nil)) pe_int))
    (pss_cons (ps_set (i := 6) sc__law_numbers.nd rfl (Or.inl rfl) (pe_op op_mod (pe_callTy call_int1 (by rfl) nb.int (by decide +kernel) (pa_cons (pe_op op_add (pe_op op_add (pe_op op_mul (pv 6) (pv 6)) (pe_op op_mul pe_int (pv 5))) pe_int) pa_nil)) pe_int))
    (pss_one (ps_expr (pe_bm PySem.F.plainAttrs_list PySem.F.slot_list_append PySem.F.type_list_append mt_append (pv 4) (pa_cons (pe_op op_mod (pe_callTy call_int1 (by rfl) nb.int (by decide +kernel) (pa_cons (pe_op op_fdiv (pv 6) pe_int) pa_nil)) pe_int) pa_nil)))))))))
    (pss_one (ps_ret (pv 4))))))), ?_⟩)
  obtain ⟨_, _, rfl, z, n, rfl, rfl, hn, h⟩ := h
  walk_at "rd"
  refine ⟨Nat.zero_le _, fun p hp => ?_⟩
  walk_at "rd"
  refine r_turns (by omega) (by omega) (fun i σ H' => ∃ (rest size : Int) (xs : List Int) (k mx : Option V), σ = [some (.int z), some (.int (n : Int)), some (.int rest), some (.int size), some (.ref p), k, mx] ∧ xs.length = i ∧ H' = upd H p (.lst (xs.map V.int))) ⟨_, _, [], none, none, rfl, rfl, rfl⟩ ?_ ?_
  · rintro i σ _ hi ⟨rest, size, xs, k, mx, rfl, hl, rfl⟩
    have hsz : (xs.map V.int).length < sizeLine := small1000 (by rw [List.length_map]; omega)
    have app : ∀ y : Int, upd (upd H p (.lst (xs.map V.int))) p (.lst (xs.map V.int ++ [.int y])) = upd H p (.lst ((xs ++ [y]).map V.int)) := fun y => by
      rw [upd_upd, List.map_append]
      rfl
    have two : ∀ r : Int, ∀ (σ' : St) (k mx : Option V) (rest size : Int), σ' = [some (.int z), some (.int (n : Int)), some (.int rest), some (.int size), some (.ref p), k, mx] → ∃ (rest size : Int) (xs' : List Int) (k mx : Option V), σ' = [some (.int z), some (.int (n : Int)), some (.int rest), some (.int size), some (.ref p), k, mx] ∧ xs'.length = i + 1 ∧ upd (upd H p (.lst (xs.map V.int))) p (.lst (xs.map V.int ++ [.int r])) = upd H p (.lst (xs'.map V.int)) := fun r σ' k mx rest size e =>
      ⟨rest, size, xs ++ [r], k, mx, e, by rw [List.length_append, hl]; rfl, app r⟩
    walk_at "rd"
    refine r_ite (fun c1 => ?_) (fun c1 => ?_)
    · walk_at "rd"
      refine r_ite (fun c2 => ?_) (fun c2 => ?_)
      · walk_at "rd"
        refine ⟨tyL upd_same, ?_⟩
        walk_at "rd"
        refine r_app upd_same hsz ?_
        walk_at "rd"
        exact two _ _ _ _ _ _ rfl
      · walk_at "rd"
        refine r_I (.inl ⟨by omega, by omega⟩) ?_
        walk_at "rd"
        refine ⟨tyL upd_same, ?_⟩
        walk_at "rd"
        refine r_app upd_same hsz ?_
        walk_at "rd"
        exact two _ _ _ _ _ _ rfl
    · walk_at "rd"
      refine r_I (.inl ⟨by omega, by omega⟩) ?_
      walk_at "rd"
      refine ⟨tyL upd_same, ?_⟩
      walk_at "rd"
      refine r_app upd_same hsz ?_
      walk_at "rd"
      exact two _ _ _ _ _ _ rfl
  · rintro σ _ ⟨rest, size, xs, k, mx, rfl, hl, rfl⟩
    walk_at "rd"
    exact h p xs hp (by omega)
theorem ok__law_next (F : FunD K "_law_next" "_law_next" (defArgs s__law_next) (defBody s__law_next) (defScope s__law_next) [] [] (glAd "_law_next" K) fd) (m : mg "_law_next" = some (.ref (glAd "_law_next" K))) (nb : Nm w K mg) : Cal P w K mg base 1 "_law_next" (sp__law_next K) [] := by
  refine calD F m sc__law_next (fun _ _ _ _ _ _ us hl => match us, hl with | [_, _], _ => rfl) len2 (fun cdv A outer s H vs Q E hr h => ⟨_, (pss_cons (ps_set (i := 2) sc__law_next.nd rfl (Or.inl rfl) (pe_ix ix_list (pv 0) pe_int (fun _ _ => rfl)))
    (pss_cons (ps_asg (pe_op op_add (pv 2) pe_int) (pg_sub (pv 0) pe_int set_list))
    (pss_one (ps_ret (pe_op op_mod (pe_callTy call_int1 (by rfl) nb.int (by decide +kernel) (pa_cons (pe_op op_add (pe_ix ix_list (pe_ix ix_list (pv 0) pe_int (fun _ _ => rfl)) (pe_op op_mod (pe_callTy call_int1 (by rfl) nb.int (by decide +kernel) (pa_cons (pv 2) pa_nil)) pe_int) (fun _ _ => rfl)) (pe_op op_mul pe_int (pe_op op_fdiv (pv 2) pe_int))) pa_nil)) (pv 1)))))), ?_⟩)
  obtain ⟨_, _, rfl, S, l, mm, rfl, rfl, h0, L, h⟩ := h
  obtain ⟨L0, k, f5, e⟩ := L
  have L : LB K S l H := ⟨L0, k, f5, e⟩
  walk_at "rd"
  refine r_ixL (SqL.of e) rfl ?_
  walk_at "rd"
  refine r_setL e rfl ?_
  walk_at "rd"
  have L2 := L.put (k + 1) l f5
  obtain ⟨v, _, ev⟩ := atI_ints (ns := S.nums) (k := k % 120) (by omega) (by rw [L0.len]; omega)
  refine r_ixL (SqL.of upd_same) rfl ?_
  walk_at "rd"
  refine r_ixL (SqL.of L2.ls.nm) ev ?_
  walk_at "rd"
  refine r_I h0 ?_
  exact h _ _ (Int.emod_nonneg _ (by omega)) (Int.emod_lt_of_pos _ h0) L2 (Keep.put _)
theorem ok__law_state (F : FunD K "_law_state" "_law_state" (defArgs s__law_state) (defBody s__law_state) (defScope s__law_state) [] [] (glAd "_law_state" K) fd) (m : mg "_law_state" = some (.ref (glAd "_law_state" K))) (nb : Nm w K mg) (c__law_cell : Cal P w K mg base 1 "_law_cell" (sp__law_cell K) []) (c__law_numbers : Cal P w K mg base 1 "_law_numbers" sp__law_numbers []) : Cal P w K mg base 2 "_law_state" (sp__law_state K) [] := by
  refine calD F m sc__law_state (fun _ _ _ _ _ _ us hl => match us, hl with | [_, _], _ => rfl) len2 (fun cdv A outer s H vs Q E hr h => ⟨_, (pss_cons (ps_set (i := 2) sc__law_state.nd rfl (Or.inl rfl) (pe_lst pa_nil))
    (pss_cons (ps_setLc (i := 4) (own := [("k", 3)]) (g := gName 3) (tt := tYes) rfl sc__law_state.nd rfl rfl (sw_true rfl rfl rfl (by decide +kernel)) (pi_range1 rfl nb.range (pa_cons pe_int pa_nil)) (blkOk_by (N := ["script", "left", "numbers", "k", "parted"]) (sc := defScope s__law_state) (by decide +kernel)) (fun _ _ _ _ _ => pg_name (i := 3) sc__law_state.nd rfl (Or.inl rfl)) (fun _ _ _ _ _ => pts_nil) (fun _ _ _ _ _ => (pe_c c__law_numbers hr (by decide) rfl (pa_cons (pe_c c__law_cell hr (by decide) rfl (pa_cons (pv 0) (pa_cons (pv 3) pa_nil))) (pa_cons pe_int pa_nil)))))
    (pss_cons (ps_for PassesOwn.never rfl (pi_range1 rfl nb.range (pa_cons pe_int pa_nil)) (pg_name (i := 3) sc__law_state.nd rfl (Or.inl rfl))
    (pss_cons (ps_expr (pe_bm PySem.F.plainAttrs_list PySem.F.slot_list_append PySem.F.type_list_append mt_append (pv 2) (pa_cons (pe_ix ix_list (pe_ix ix_list (pv 4) pe_int (fun _ _ => rfl)) (pv 3) (fun _ _ => rfl)) pa_nil)))
    (pss_cons (ps_expr (pe_bm PySem.F.plainAttrs_list PySem.F.slot_list_append PySem.F.type_list_append mt_append (pv 2) (pa_cons (pe_ix ix_list (pe_ix ix_list (pv 4) pe_int (fun _ _ => rfl)) (pv 3) (fun _ _ => rfl)) pa_nil)))
    (pss_one (ps_expr (pe_bm PySem.F.plainAttrs_list PySem.F.slot_list_append PySem.F.type_list_append mt_append (pv 2) (pa_cons (pe_ix ix_list (pe_ix ix_list (pv 4) pe_int (fun _ _ => rfl)) (pv 3) (fun _ _ => rfl)) pa_nil)))))))
    (pss_one (ps_ret (pe_lst (pa_cons (pv 2) (pa_cons pe_int (pa_cons (pv 1) (pa_cons (pv 0) (pa_cons pe_int pa_nil))))))))))), ?_⟩)
  obtain ⟨_, _, rfl, sl, ns, l, rfl, rfl, hs, h⟩ := h
  walk_at "rd"
  refine ⟨Nat.zero_le _, fun p hp => ?_⟩
  walk_at "rd"
  refine r_lcR 3 (by decide) (fun D hD => ?_) (fun R hR => hR)
  have sp0 := same_upd hp (.lst [])
  have pD : p ≠ D := fun e => by
    rw [← e, upd_same] at hD
    cases hD
  refine lc_range (fun i H' => ∃ ps : List Addr, H' D = some (.lst (ps.map V.ref)) ∧ ps.length = i ∧ (∀ q ∈ ps, q ≠ D ∧ ∃ xs : List Int, H' q = some (.lst (xs.map V.int)) ∧ xs.length = 40) ∧ Same (upd H p (.lst [])) H') ⟨[], upd_same, rfl, fun q hq => (by cases hq), same_upd hD _⟩ ?_ ?_
  · rintro i H' hi ⟨ps, e1, e2, e3, e4⟩
    walk_at "rd"
    refine ⟨rfl, ?_⟩
    walk_at "rd"
    have hs' : SqL K H' sl (ns.map V.int) := e4.seq (sp0.seq hs)
    refine ⟨_, _, rfl, sl, ns, _, rfl, rfl, hs', by omega, fun z => ?_⟩
    walk_at "rd"
    refine ⟨_, _, rfl, z, 40, rfl, rfl, by decide, fun q xs hq hx => ?_⟩
    have Dq : D ≠ q := ne_of_none e1 hq
    refine ⟨_, (upd_ne Dq).trans e1, small1000 (by rw [List.length_map]; omega), ps ++ [q], ?_, by rw [List.length_append, e2]; rfl, ?_, ?_⟩
    · rw [upd_same, List.map_append]
      rfl
    · intro q' hq'
      rcases List.mem_append.mp hq' with h1 | h1
      · obtain ⟨n1, xs', x1, x2⟩ := e3 q' h1
        exact ⟨n1, xs', by rw [upd_ne n1, upd_ne (ne_of_none x1 hq)]; exact x1, x2⟩
      · have e5 : q' = q := by simpa using h1
        subst e5
        exact ⟨Ne.symm Dq, xs, by rw [upd_ne (Ne.symm Dq), upd_same], hx⟩
    · intro b o hb
      have hb2 := e4 b o hb
      rw [upd_ne (ne_of_none hb hD), upd_ne (ne_of_none hb2 hq)]
      exact hb2
  · rintro H' ⟨ps, e1, e2, e3, e4⟩
    walk_at "rd"
    obtain ⟨p0, p1, p2, rfl⟩ : ∃ p0 p1 p2, ps = [p0, p1, p2] := match ps, e2 with | [a, b, c], _ => ⟨a, b, c, rfl⟩
    obtain ⟨_, x0, y0, z0⟩ := e3 p0 (by simp)
    obtain ⟨_, x1, y1, z1⟩ := e3 p1 (by simp)
    obtain ⟨_, x2, y2, z2⟩ := e3 p2 (by simp)
    have hp' : H' p = some (.lst []) := e4 _ _ upd_same
    have ne0 : ∀ {q : Addr} {xs : List Int}, H' q = some (.lst (xs.map V.int)) → xs.length = 40 → q ≠ p := fun {q xs} h1 h2 h3 => by
      rw [h3, hp'] at h1
      injection h1 with h1
      injection h1 with h1
      have h4 := congrArg List.length h1
      rw [List.length_map, h2] at h4
      cases h4
    have n0 := ne0 y0 z0
    have n1 := ne0 y1 z1
    have n2 := ne0 y2 z2
    have nD : D ≠ p := Ne.symm pD
    have fit : ∀ (xs : List Int) (i : Nat), xs.length = 40 → (i : Int) < 40 → ∃ v, atI (xs.map V.int) (i : Int) = some (.int v) := fun xs i h1 h2 => by
      obtain ⟨v, _, e⟩ := atI_ints (ns := xs) (k := (i : Int)) (by omega) (by omega)
      exact ⟨v, e⟩
    refine r_turns (by decide) (by decide) (fun i σ H2 => ∃ (zs : List Int) (kk : Option V), σ = [some (.ref sl), some (.int l), some (.ref p), kk, some (.ref D)] ∧ zs.length = 3 * i ∧ H2 = upd H' p (.lst (zs.map V.int))) ⟨[], none, rfl, rfl, ?_⟩ ?_ ?_
    · funext b
      by_cases c : b = p
      · subst c
        rw [upd_same, hp']
        rfl
      · rw [upd_ne c]
    · rintro i σ _ hi ⟨zs, kk, rfl, hz, rfl⟩
      obtain ⟨v0, a0⟩ := fit x0 i z0 hi
      obtain ⟨v1, a1⟩ := fit x1 i z1 hi
      obtain ⟨v2, a2⟩ := fit x2 i z2 hi
      walk_at "rd"
      refine ⟨tyL upd_same, ?_⟩
      walk_at "rd"
      refine r_ixL (SqL.of ((upd_ne nD).trans e1)) rfl ?_
      walk_at "rd"
      refine r_ixL (SqL.of ((upd_ne n0).trans y0)) a0 ?_
      walk_at "rd"
      refine r_app upd_same (small1000 (by rw [List.length_map]; omega)) ?_
      rw [upd_upd]
      walk_at "rd"
      refine ⟨tyL upd_same, ?_⟩
      walk_at "rd"
      refine r_ixL (SqL.of ((upd_ne nD).trans e1)) rfl ?_
      walk_at "rd"
      refine r_ixL (SqL.of ((upd_ne n1).trans y1)) a1 ?_
      walk_at "rd"
      refine r_app upd_same (small1000 (by rw [List.length_append, List.length_map]; show zs.length + 1 ≤ 1000; omega)) ?_
      rw [upd_upd]
      walk_at "rd"
      refine ⟨tyL upd_same, ?_⟩
      walk_at "rd"
      refine r_ixL (SqL.of ((upd_ne nD).trans e1)) rfl ?_
      walk_at "rd"
      refine r_ixL (SqL.of ((upd_ne n2).trans y2)) a2 ?_
      walk_at "rd"
      refine r_app upd_same (small1000 (by rw [List.length_append, List.length_append, List.length_map]; show zs.length + 1 + 1 ≤ 1000; omega)) ?_
      rw [upd_upd]
      exact ⟨zs ++ [v0] ++ [v1] ++ [v2], _, rfl, by simp [hz]; omega, by simp⟩
    · rintro σ _ ⟨zs, kk, rfl, hz, rfl⟩
      walk_at "rd"
      refine ⟨(by show 5 ≤ sizeLine; decide), fun a ha => ?_⟩
      have sa := same_upd ha (.lst [.ref p, .int 0, .int l, .ref sl, .int 3])
      have pa : p ≠ a := ne_of_none upd_same ha
      have all : Same H (upd H' p (.lst (zs.map V.int))) := fun b o hb => by
        rw [upd_ne (ne_of_none hb hp)]
        exact e4 _ _ (sp0 _ _ hb)
      have hsl : SqL K H sl (ns.map V.int) := hs
      refine h ⟨a, p, sl, zs, ns⟩ _ rfl rfl ⟨⟨⟨0, l, 3, upd_same⟩, (upd_ne pa).trans upd_same, by rw [hz]; rfl, pa, sa.seq (all.seq hs)⟩, 0, 3, upd_same⟩ (all.trans sa) (all.free ha)
end

/-! ### draws that keep the budget -/
section
variable {K : PySem.W.Frag} {S : SC} {l : Int} {σ : St} {H : Hp} {Q : VK} {E : XK}
theorem b_next {m : Int} (L : LB K S l H) (hm : 0 < m) (h : ∀ (r : Int) (H' : Hp), 0 ≤ r → r < m → LB K S l H' → Keep S H H' → Q (.int r) H') : sp__law_next K ([.ref S.a, .int m] ++ []) H Q E := ⟨_, _, rfl, S, l, m, rfl, rfl, hm, L, h⟩
/-- [x, y, ..][_law_next(state, n)] -/
theorem b_pick {xs : List V} {n : Int} {i : Nat} (L : LB K S l H) (e : σ[i]? = some (some (.ref S.a))) (hl : xs.length ≤ sizeLine) (hn : 0 < n) (hx : (xs.length : Int) = n)
    (h : ∀ (v : V) (H' : Hp), v ∈ xs → LB K S l H' → Keep S H H' → Q v H') :
    xs.length ≤ sizeLine ∧ ∀ p, H p = none → tCall (sp__law_next K) [] E (tCons (tVar i) (tCons (tC (.int n)) tNil)) σ (upd H p (.lst xs)) fun y H2 => rIxL K (.ref p) y H2 Q := by
  refine ⟨hl, fun p hp => ⟨_, e, ?_⟩⟩
  show sp__law_next K ([.ref S.a, .int n] ++ []) (upd H p (.lst xs)) (fun y H2 => rIxL K (.ref p) y H2 Q) E
  refine b_next (L.new hp _) hn fun r H' h0 h1 L' k => ?_
  have hr : r.toNat < xs.length := by omega
  have er : r = ((r.toNat : Nat) : Int) := by omega
  refine ⟨p, xs, r, xs[r.toNat], rfl, rfl, SqL.of (k _ _ (L.ne_free hp) upd_same), ?_, ?_⟩
  · have q := atI_nat (xs := xs) (j := r.toNat) (v := xs[r.toNat]) (List.getElem?_eq_getElem hr)
    rw [← er] at q
    exact q
  · exact h _ _ (List.getElem_mem hr) L' ((Keep.of (same_upd hp _)).trans k)
/-- the same, all of them numbers from lo to hi -/
theorem b_pickI {xs : List V} {n : Int} {i : Nat} (lo hi : Int) (L : LB K S l H) (e : σ[i]? = some (some (.ref S.a))) (hl : xs.length ≤ sizeLine) (hn : 0 < n) (hx : (xs.length : Int) = n) (hz : ∀ v ∈ xs, ∃ z, v = V.int z ∧ lo ≤ z ∧ z ≤ hi)
    (h : ∀ (z : Int) (H' : Hp), lo ≤ z → z ≤ hi → V.int z ∈ xs → LB K S l H' → Keep S H H' → Q (.int z) H') :
    xs.length ≤ sizeLine ∧ ∀ p, H p = none → tCall (sp__law_next K) [] E (tCons (tVar i) (tCons (tC (.int n)) tNil)) σ (upd H p (.lst xs)) fun y H2 => rIxL K (.ref p) y H2 Q :=
  b_pick L e hl hn hx fun v H' hv L' k => by
    obtain ⟨z, rfl, h1, h2⟩ := hz v hv
    exact h z H' h1 h2 hv L' k
theorem bl_nil {p : V → Prop} : ∀ v ∈ ([] : List V), p v := fun v hv => by cases hv
theorem bl_cons {p : V → Prop} {x : V} {xs : List V} (h : p x) (t : ∀ v ∈ xs, p v) : ∀ v ∈ x :: xs, p v := fun v hv => by
  rcases List.mem_cons.mp hv with e | e
  · rw [e]
    exact h
  · exact t v e
theorem b_new {o : HO} {p : Addr} (L : LB K S l H) (hp : H p = none) : ∃ H', upd H p o = H' ∧ LB K S l H' ∧ Same H H' ∧ H' p = some o ∧ p ≠ S.a := ⟨_, rfl, L.new hp o, same_upd hp o, upd_same, L.ne_free hp⟩
end

/-! ### slices, comprehensions, objects: rules of general use -/
section
variable {σ : St} {H : Hp} {n b c : St → Hp → Prop} {r : VK} {Q : VK} {K : Frg} {a C dx : Addr} {fs : List (Str × V)} {f : Str} {v : V}
theorem r_fsetK {R : Hp → Prop} {fs' : List (Str × V)} (h : H a = some (.ins C dx fs)) (cl : Cls K C) (na : NoAttr K C f) (hl : fs.length < 1000) (e : putF f v fs = fs') (q : ∀ H', H' a = some (.ins C dx fs') → (∀ b, b ≠ a → H' b = H b) → R H') :
    ∃ a' C dx fs, V.ref a = .ref a' ∧ H a' = some (.ins C dx fs) ∧ Cls K C ∧ NoAttr K C f ∧ fs.length < 1000 ∧ R (upd H a' (.ins C dx (putF f v fs))) := r_fset h cl na hl e (q _ upd_same fun _ hb => upd_ne hb)
theorem r_appK {p : Addr} {xs : List V} {y : V} (h : H p = some (.lst xs)) (hl : xs.length < sizeLine) (q : ∀ H', H' p = some (.lst (xs ++ [y])) → (∀ b, b ≠ p → H' b = H b) → Q .non H') : rAppend (.ref p) [y] H Q := r_app h hl (q _ upd_same fun _ hb => upd_ne hb)
theorem r_gfldV {R : St → Hp → Prop} {fs' : List (Str × V)} {k : Nat} (ek : σ[k]? = some (some (.ref a))) (h : H a = some (.ins C dx fs)) (cl : Cls K C) (na : NoAttr K C f) (hl : fs.length < 1000) (e : putF f v fs = fs') (q : ∀ H', H' a = some (.ins C dx fs') → (∀ b, b ≠ a → H' b = H b) → R σ H') : gFld K (tVar k) f v σ H R :=
  ⟨_, ek, a, C, dx, fs, rfl, h, cl, na, hl, by rw [e]; exact q _ upd_same fun _ hb => upd_ne hb⟩
end
def But (a l : Addr) (H H' : Hp) : Prop := ∀ b u, b ≠ a → b ≠ l → H b = some u → H' b = some u
theorem map_snoc (ps : List Int) (x : Int) : ps.map V.int ++ [V.int x] = (ps ++ [x]).map V.int := by simp
theorem dp_tup {K : Frg} {H : Hp} {v : V} {ds : List PyData} (h : Dp K H v (.tuple ds)) : ∃ a xs, v = .ref a ∧ SqT K H a xs ∧ DpAll K H xs ds := by
  cases h
  exact ⟨_, _, rfl, by assumption, by assumption⟩
theorem dp_get {K : Frg} {H : Hp} : ∀ {xs : List V} {ds : List PyData} {i : Nat} {x : V}, DpAll K H xs ds → xs[i]? = some x → ∃ d, ds[i]? = some d ∧ Dp K H x d
  | [], _, _, _, _, e => by cases e
  | x :: xs, _, 0, _, .cons h t, e => by
    cases e
    exact ⟨_, rfl, h⟩
  | x :: xs, _, i + 1, _, .cons h t, e => by
    obtain ⟨d, e1, h1⟩ := dp_get (i := i) t e
    exact ⟨d, e1, h1⟩
theorem dp_len {K : Frg} {H : Hp} : ∀ {xs : List V} {ds : List PyData}, DpAll K H xs ds → xs.length = ds.length
  | [], _, .nil => rfl
  | _ :: _, _, .cons _ t => congrArg (· + 1) (dp_len t)
theorem dp_ints {K : Frg} {H : Hp} : ∀ {xs : List V} (ns : List Int), DpAll K H xs (ns.map PyData.int) → xs = ns.map V.int
  | _, [], h => by
    cases h
    rfl
  | _, n :: ns, h => by
    cases h with
    | cons h t =>
      cases h
      rw [dp_ints ns t]
      rfl
theorem dpa_ints {K : Frg} {H : Hp} : ∀ (ns : List Int), DpAll K H (ns.map V.int) (ns.map PyData.int)
  | [] => .nil
  | n :: ns => .cons (.int n) (dpa_ints ns)
theorem shaped_ints (ns : List Int) : SeqAt.shaped (.list (ns.map PyData.int)) = true := PySem.W.ke_shaped_ints ns
theorem ints_get {cs : List Int} {i : Nat} {x : V} (e : (cs.map V.int)[i]? = some x) : ∃ c, cs[i]? = some c ∧ x = .int c ∧ cs.take (i + 1) = cs.take i ++ [c] := by
  rw [List.getElem?_map] at e
  obtain ⟨c, h, rfl⟩ := Option.map_eq_some_iff.mp e
  refine ⟨c, h, rfl, ?_⟩
  rw [List.take_succ, h]
  rfl
theorem ints_step {cs : List Int} {i : Nat} {c : Int} (h : cs[i]? = some c) : cs.take (i + 1) = cs.take i ++ [c] := by
  rw [List.take_succ, h]
  rfl
/-- the state stays when a place changes that was free at an earlier heap -/
theorem LS.away {K : PySem.W.Frag} {S : SC} {H1 H' : Hp} (L1 : LS K S H1) {D : Addr} (hD : H1 D = none) (L : LS K S H') (o : HO) : LS K S (upd H' D o) := by
  obtain ⟨⟨k, l, f, e⟩, h2, h3, h4, h5⟩ := L1
  obtain ⟨⟨k', l', f', e'⟩, h2', _, _, h5'⟩ := L
  have n : ∀ {b : Addr} {u : HO}, H1 b = some u → b ≠ D := fun h z => by
    rw [z, hD] at h
    cases h
  refine ⟨⟨k', l', f', (upd_ne (n e)).trans e'⟩, (upd_ne (n h2)).trans h2', h3, h4, ?_⟩
  rcases h5 with (h | ⟨u, h⟩) | h
  · exact seq_upd h5' (n h)
  · exact seq_upd h5' (n h)
  · exact .inr h
theorem r_sl {σ : St} {H : Hp} {Q : VK} {r : V → Option Int → Option Int → Hp → VK → Prop} {te : TE} {tl th : TO} (h : te σ H fun x H1 => tl σ H1 fun l H2 => th σ H2 fun u H3 => r x l u H3 Q) : tSl r te tl th σ H Q := h
theorem r_part {σ : St} {H : Hp} {t : TE} {Q : Option Int → Hp → Prop} (h : t σ H fun x H1 => ∃ i, x = .int i ∧ Q (some i) H1) : tPart t σ H Q := h
theorem r_some {i : Int} {Q : Option Int → Prop} (h : Q (some i)) : ∃ j, V.int i = .int j ∧ Q (some j) := ⟨i, rfl, h⟩
theorem r_nopart {σ : St} {H : Hp} {Q : Option Int → Hp → Prop} (h : Q none H) : tNoPart σ H Q := h
theorem r_slL {K : PySem.W.Frag} {p : Addr} {xs : List V} {lo hi : Option Int} {H : Hp} {Q : VK} (hs : SqL K H p xs) (h : ∀ q, H q = none → Q (.ref q) (upd H q (.lst (cutV xs lo hi)))) : rSlL K (.ref p) lo hi H Q := ⟨p, xs, rfl, hs, h⟩
theorem cut_tl {v : V} {xs : List V} : cutV (v :: xs) (some 1) none = xs := by
  have e : HT.sIx (v :: xs).length 0 (some 1) = 1 := (HT.sIx_nat (v :: xs).length 0 1).trans (by show min 1 (xs.length + 1) = 1; omega)
  unfold cutV
  rw [e, HT.sIx_none]
  show xs.take (xs.length + 1 - 1) = xs
  simp
theorem r_min2 {σ : St} {H : Hp} {Q : VK} {K : PySem.W.Frag} {p : Addr} {x y : Int} (hs : H p = some (.lst [.int x, .int y])) (h : Q (.int (min x y)) H) : rMin K [.ref p] H Q := by
  refine ⟨p, [x, y], rfl, SqL.of hs, by show 0 < 2; decide, fun m hm hle => ?_⟩
  have h1 := hle x (by simp)
  have h2 := hle y (by simp)
  have e : m = min x y := by
    rcases List.mem_cons.mp hm with e | e
    · omega
    · rcases List.mem_cons.mp e with e | e
      · omega
      · cases e
  rw [e]
  exact h
theorem at0 {v : V} {xs : List V} : atI (v :: xs) 0 = some v := atI_nat (xs := v :: xs) (j := 0) rfl
theorem cut_ints (zs : List Int) (lo hi : Option Int) : ∃ ws : List Int, cutV (zs.map V.int) lo hi = ws.map V.int ∧ (∀ x ∈ ws, x ∈ zs) ∧ ws.length ≤ zs.length := by
  refine ⟨(zs.drop (HT.sIx (zs.map V.int).length 0 lo)).take (HT.sIx (zs.map V.int).length (zs.map V.int).length hi - HT.sIx (zs.map V.int).length 0 lo), ?_, ?_, ?_⟩
  · unfold cutV
    rw [List.map_take, List.map_drop]
  · intro x hx
    exact List.mem_of_mem_drop (List.mem_of_mem_take hx)
  · rw [List.length_take, List.length_drop]
    omega
/-- a slice of a row of numbers in a slot -/
theorem d_cut {σ : St} {H : Hp} {Q : VK} {K : PySem.W.Frag} {k : Nat} {o : Addr} {zs : List Int} {tl th : TO} (lo hi : Option Int) (e : σ[k]? = some (some (.ref o))) (g : H o = some (.lst (zs.map V.int))) (hl : ∀ R : Option Int → Hp → Prop, R lo H → tl σ H R) (hh : ∀ R : Option Int → Hp → Prop, R hi H → th σ H R)
    (h : ∀ (q : Addr) (ws : List Int), H q = none → (∀ x ∈ ws, x ∈ zs) → ws.length ≤ zs.length → Q (.ref q) (upd H q (.lst (ws.map V.int)))) : tSl (rSlL K) (tVar k) tl th σ H Q := by
  refine r_sl ⟨_, e, hl _ (hh _ ?_)⟩
  obtain ⟨ws, e1, e2, e3⟩ := cut_ints zs lo hi
  refine r_slL (SqL.of g) fun q nq => ?_
  rw [e1]
  exact h q ws nq e2 e3
theorem cat_ints (a b : List Int) : a.map V.int ++ b.map V.int = (a ++ b).map V.int := by simp
theorem LS.but {K : PySem.W.Frag} {S : SC} {H1 H H' : Hp} (L1 : LS K S H1) {m l : Addr} (hm : H1 m = none) (hl : H1 l = none) (L : LS K S H) (b : But m l H H') : LS K S H' := by
  obtain ⟨⟨k, l', f, e⟩, h2, h3, h4, h5⟩ := L1
  obtain ⟨⟨k', l'', f', e'⟩, h2', _, _, h5'⟩ := L
  have n1 : ∀ {b : Addr} {u : HO}, H1 b = some u → b ≠ m := fun h z => by
    rw [z, hm] at h
    cases h
  have n2 : ∀ {b : Addr} {u : HO}, H1 b = some u → b ≠ l := fun h z => by
    rw [z, hl] at h
    cases h
  refine ⟨⟨k', l'', f', b _ _ (n1 e) (n2 e) e'⟩, b _ _ (n1 h2) (n2 h2) h2', h3, h4, ?_⟩
  have go : S.sl ≠ m → S.sl ≠ l → SqL K H' S.sl (S.ns.map V.int) := fun q1 q2 => by
    rcases h5' with (h | ⟨u, h⟩) | h
    · exact .inl (.inl (b _ _ q1 q2 h))
    · exact .inl (.inr ⟨u, b _ _ q1 q2 h⟩)
    · exact .inr h
  rcases h5 with (h | ⟨u, h⟩) | h
  · exact go (n1 h) (n2 h)
  · exact go (n1 h) (n2 h)
  · exact .inr h
theorem But.refl (a l : Addr) (H : Hp) : But a l H H := fun _ _ _ _ z => z
theorem But.trans {a l : Addr} {H H1 H2 : Hp} (x : But a l H H1) (y : But a l H1 H2) : But a l H H2 := fun b u p q z => y b u p q (x b u p q z)
theorem But.same {a l : Addr} {H H1 : Hp} (x : Same H H1) : But a l H H1 := fun b u _ _ z => x b u z
theorem cut_to {zs : List Int} {d : Nat} (h : d ≤ zs.length) : cutV (zs.map V.int) none (some (d : Nat)) = (zs.take d).map V.int := by
  unfold cutV
  rw [HT.sIx_nat, HT.sIx_none, List.length_map, Nat.min_eq_left h, List.drop_zero, Nat.sub_zero, List.map_take]
theorem r_lcL {σ : St} {H : Hp} {Q : VK} {K : PySem.W.Frag} {tl : TE} {g : TG} {tt : TT} {te : TE} {vs : List Nat} (h : tl σ H fun x H1 => ∃ a, x = .ref a ∧ (∃ xs, SqL K H1 a xs) ∧ ∀ D, H1 D = none → ∃ W : Nat → Nat → Hp → Prop, (∃ m, W 0 m (upd H1 D (.lst []))) ∧ ∀ i m H, W i m H →
  ((Itl K a).stop i H ∧ Q (.ref D) H) ∨ ((Itl K a).go i H ∧ ∃ Nx : Hp → Prop, (∀ H', Nx H' → ∃ m', m' < m ∧ W (i + 1) m' H') ∧ ∀ x H', (Itl K a).yld i H x H' → g x (wipe σ vs) H' fun σ2 H2 => wipe σ2 vs = wipe σ vs ∧ tt σ2 H2 fun b H3 =>
    if b = true then te σ2 H3 fun y H4 => ∃ acc, H4 D = some (.lst acc) ∧ acc.length < sizeLine ∧ Nx (upd H4 D (.lst (acc ++ [y]))) else Nx H3)) : tLc (iList K tl) g tt te vs σ H Q := h
/-- a for over range(j), what stands behind a break known -/
theorem r_turnsB {σ : St} {H : Hp} {n : St → Hp → Prop} {r : VK} {j : Int} {g : TG} {tb : TS} (h1 : -(2 ^ 62) ≤ j) (h2 : j < 2 ^ 62) (M : St → Hp → Prop) (hM : ∀ σ H, M σ H → n σ H) (Pv : Nat → St → Hp → Prop) (h0 : Pv 0 σ H)
    (hs : (∀ σ H, M σ H → n σ H) → ∀ (i : Nat) σ H, (i : Int) < j → Pv i σ H → g (.int (i : Int)) σ H fun σ2 H2 => tb ⟨Pv (i + 1), r, n, Pv (i + 1)⟩ σ2 H2) (hd : ∀ σ H, Pv j.toNat σ H → M σ H) :
    -(2 ^ 62) ≤ j ∧ j < 2 ^ 62 ∧ ∃ W : Nat → Nat → St → Hp → Prop, (∃ m, W 0 m σ H) ∧ ∀ i m σ H, W i m σ H →
    ((Itr 0 j.toNat).stop i H ∧ n σ H) ∨ ((Itr 0 j.toNat).go i H ∧ ∃ N : St → Hp → Prop, (∀ σ' H', N σ' H' → ∃ m', m' < m ∧ W (i + 1) m' σ' H') ∧ ∀ x H', (Itr 0 j.toNat).yld i H x H' → g x σ H' fun σ2 H2 => tb ⟨N, r, n, N⟩ σ2 H2) :=
  r_turns h1 h2 Pv h0 (hs hM) fun σ H p => hM σ H (hd σ H p)
theorem at_end (a : List Int) (v : Int) : atI ((a ++ [v]).map V.int) ((((a ++ [v]).length : Nat) : Int) - 1) = some (.int v) := by
  rw [show (((a ++ [v]).length : Nat) : Int) - 1 = ((a.length : Nat) : Int) by rw [List.length_append]; show ((a.length + 1 : Nat) : Int) - 1 = _; omega]
  refine atI_nat ?_
  rw [List.getElem?_map, List.getElem?_append_right (Nat.le_refl _), Nat.sub_self]
  rfl
theorem r_lc0 {σ : St} {H : Hp} {Q : VK} {ta : TA} {g : TG} {tt : TT} {te : TE} {vs : List Nat} (h : ta σ H fun ws H1 => ∃ j : Int, ws = [.int j] ∧ -(2 ^ 62) ≤ j ∧ j < 2 ^ 62 ∧ ∀ D, H1 D = none → ∃ W : Nat → Nat → Hp → Prop, (∃ m, W 0 m (upd H1 D (.lst []))) ∧ ∀ i m H, W i m H →
  ((Itr 0 j.toNat).stop i H ∧ Q (.ref D) H) ∨ ((Itr 0 j.toNat).go i H ∧ ∃ Nx : Hp → Prop, (∀ H', Nx H' → ∃ m', m' < m ∧ W (i + 1) m' H') ∧ ∀ x H', (Itr 0 j.toNat).yld i H x H' → g x (wipe σ vs) H' fun σ2 H2 => wipe σ2 vs = wipe σ vs ∧ tt σ2 H2 fun b H3 =>
    if b = true then te σ2 H3 fun y H4 => ∃ acc, H4 D = some (.lst acc) ∧ acc.length < sizeLine ∧ Nx (upd H4 D (.lst (acc ++ [y]))) else Nx H3)) : tLc (iRng1 ta) g tt te vs σ H Q := h

/-! ### more rules of general use -/
theorem r_lcT {σ : St} {H : Hp} {Q : VK} {K : PySem.W.Frag} {tl : TE} {g : TG} {tt : TT} {te : TE} {vs : List Nat} (h : tl σ H fun x H1 => ∃ a, x = .ref a ∧ (∃ xs, SqT K H1 a xs) ∧ ∀ D, H1 D = none → ∃ W : Nat → Nat → Hp → Prop, (∃ m, W 0 m (upd H1 D (.lst []))) ∧ ∀ i m H, W i m H →
  ((Itt K a).stop i H ∧ Q (.ref D) H) ∨ ((Itt K a).go i H ∧ ∃ Nx : Hp → Prop, (∀ H', Nx H' → ∃ m', m' < m ∧ W (i + 1) m' H') ∧ ∀ x H', (Itt K a).yld i H x H' → g x (wipe σ vs) H' fun σ2 H2 => wipe σ2 vs = wipe σ vs ∧ tt σ2 H2 fun b H3 =>
    if b = true then te σ2 H3 fun y H4 => ∃ acc, H4 D = some (.lst acc) ∧ acc.length < sizeLine ∧ Nx (upd H4 D (.lst (acc ++ [y]))) else Nx H3)) : tLc (iTup K tl) g tt te vs σ H Q := h
theorem r_gunl {σ : St} {H : Hp} {K : PySem.W.Frag} {p : Addr} {xs : List V} {n : Nat} {t : TGs} {R : St → Hp → Prop} (hs : SqL K H p xs) (hl : xs.length = n) (h : t xs σ H R) : gUnl K n t (.ref p) σ H R := ⟨p, xs, rfl, hs, hl, h⟩
theorem cut_from {zs : List Int} {d : Nat} : cutV (zs.map V.int) (some (d : Nat)) none = (zs.drop d).map V.int := by
  unfold cutV
  rw [HT.sIx_nat, HT.sIx_none, List.length_map]
  by_cases h : d ≤ zs.length
  · rw [Nat.min_eq_left h, List.take_of_length_le (by rw [List.length_drop, List.length_map]; omega), List.map_drop]
  · rw [Nat.min_eq_right (by omega), List.drop_of_length_le (by rw [List.length_map]; omega), List.drop_of_length_le (by omega)]
    simp
theorem cut_mid {zs : List Int} {d e : Nat} (h : d ≤ e) : cutV (zs.map V.int) (some (d : Nat)) (some (e : Nat)) = ((zs.drop d).take (e - d)).map V.int := by
  unfold cutV
  rw [HT.sIx_nat, HT.sIx_nat, List.length_map]
  by_cases h1 : e ≤ zs.length
  · rw [Nat.min_eq_left h1, Nat.min_eq_left (by omega), List.map_take, List.map_drop]
  · by_cases h2 : d ≤ zs.length
    · rw [Nat.min_eq_right (by omega), Nat.min_eq_left h2, List.map_take, List.map_drop, List.take_of_length_le (by rw [List.length_drop, List.length_map]; omega), List.take_of_length_le (by rw [List.length_drop, List.length_map]; omega)]
    · rw [Nat.min_eq_right (by omega), Nat.min_eq_right (by omega), Nat.sub_self, List.take_zero, List.drop_of_length_le (l := zs) (by omega)]
      simp
theorem cut_to' {zs : List Int} {d : Nat} : cutV (zs.map V.int) none (some (d : Nat)) = (zs.take d).map V.int := by
  unfold cutV
  rw [HT.sIx_nat, HT.sIx_none, List.length_map, List.drop_zero, Nat.sub_zero, List.map_take]
  by_cases h : d ≤ zs.length
  · rw [Nat.min_eq_left h]
  · rw [Nat.min_eq_right (by omega), List.take_of_length_le (by rw [List.length_map]; omega), List.take_of_length_le (by rw [List.length_map]; omega)]
/-- list + list, both of integers -/
theorem r_catI {a b : Addr} {xs ys : List Int} {H : Hp} {Q : VK} (h1 : H a = some (.lst (xs.map V.int))) (h2 : H b = some (.lst (ys.map V.int))) (hl : xs.length + ys.length ≤ 1000) (h : ∀ p H', H p = none → H' p = some (.lst ((xs ++ ys).map V.int)) → Same H H' → Q (.ref p) H') : rCat (.ref a) (.ref b) H Q :=
  ⟨a, b, _, _, rfl, rfl, h1, h2, Nat.le_of_lt (small1000 (by rw [List.length_map, List.length_map]; exact hl)), fun p hp => h p _ hp (by rw [upd_same, cat_ints]) (same_upd hp _)⟩
theorem r_slI {K : PySem.W.Frag} {p : Addr} {xs ys : List Int} {lo hi : Option Int} {H : Hp} {Q : VK} (hs : H p = some (.lst (xs.map V.int))) (e : cutV (xs.map V.int) lo hi = ys.map V.int) (h : ∀ q H', H q = none → H' q = some (.lst (ys.map V.int)) → Same H H' → Q (.ref q) H') : rSlL K (.ref p) lo hi H Q :=
  r_slL (SqL.of hs) fun q hq => h q _ hq (by rw [upd_same, e]) (same_upd hq _)
/-- a new list or tuple -/
theorem r_nw {o : HO} {R : Addr → Hp → Prop} {c : Prop} {H : Hp} (hc : c) (h : ∀ (p : Addr) (H' : Hp), H p = none → H' p = some o → Same H H' → R p H') : c ∧ ∀ p, H p = none → R p (upd H p o) :=
  ⟨hc, fun p hp => h p _ hp upd_same (same_upd hp o)⟩
theorem r_nwI {zs : List Int} {R : Addr → Hp → Prop} {c : Prop} {H : Hp} (hc : c) (h : ∀ (p : Addr) (H' : Hp), H p = none → H' p = some (.lst (zs.map V.int)) → Same H H' → R p H') : c ∧ ∀ p, H p = none → R p (upd H p (.lst (zs.map V.int))) :=
  r_nw hc h
theorem same_tup {K : PySem.W.Frag} {H H' : Hp} {a : Addr} {xs : List V} (e : Same H H') (h : SqT K H a xs) : SqT K H' a xs := by
  rcases h with (h | ⟨o, h⟩) | h
  · exact .inl (.inl (e _ _ h))
  · exact .inl (.inr ⟨o, e _ _ h⟩)
  · exact .inr h
theorem same_seq {K : PySem.W.Frag} {H H' : Hp} {a : Addr} {xs : List V} (e : Same H H') (h : SqL K H a xs ∨ SqT K H a xs) : SqL K H' a xs ∨ SqT K H' a xs := h.elim (fun q => .inl (e.seq q)) fun q => .inr (same_tup e q)
theorem same_away {H1 H' : Hp} {D : Addr} {o : HO} (s : Same H1 H') (n : H1 D = none) : Same H1 (upd H' D o) := fun b u h => by
  rw [upd_ne (ne_of_none h n)]
  exact s b u h
theorem rep1 (n : Nat) (z : Int) : (List.replicate n [V.int z]).flatten = (List.replicate n z).map V.int := by
  induction n with
  | zero => rfl
  | succ n ih => rw [List.replicate_succ, List.replicate_succ, List.flatten_cons, ih]; rfl
/-- [z] * k -/
theorem r_repI {a : Addr} {z k : Int} {H : Hp} {Q : VK} (h1 : H a = some (.lst [.int z])) (h0 : -1000 ≤ k) (hk : k ≤ 1000) (h : ∀ p H', H p = none → H' p = some (.lst ((List.replicate k.toNat z).map V.int)) → Same H H' → Q (.ref p) H') : rRep (.ref a) (.int k) H Q :=
  ⟨a, k, [.int z], rfl, rfl, h1, by omega, by omega, Nat.le_of_lt (small1000 (by show 1 * _ ≤ 1000; omega)), fun p hp => h p _ hp (by rw [upd_same, rep1]) (same_upd hp _)⟩
def sp0 (f : Hp → VK → XK → Prop) : Sp := fun vs H Q E => vs = [] ∧ f H Q E
theorem len0 {f} (vs : List V) (H : Hp) (Q : VK) (E : XK) (h : sp0 f vs H Q E) : vs.length = 0 := by
  obtain ⟨rfl, _⟩ := h
  rfl
theorem ffl {i : Int} (h1 : -(2 ^ 62) ≤ i) (h2 : i < 2 ^ 62) : Builtin.Range.rangeFitsLong i = true := by
  unfold Builtin.Range.rangeFitsLong
  rw [decide_eq_true (by omega), decide_eq_true (by omega)]
  rfl
theorem rgP (n c k : Nat) (hn : n < 2 ^ 60) (h0 : 0 < c) (hc : c < 1000) (hk : k = (n + (c - 1)) / c) : RgC 0 (n : Nat) (c : Nat) k := by
  have hkn : k ≤ n + (c - 1) := by
    rw [hk]
    exact Nat.div_le_self _ _
  have e : Builtin.Range.rangeSize 0 (n : Nat) (c : Nat) = ((k : Nat) : Int) := by
    unfold Builtin.Range.rangeSize
    rw [if_pos (by omega)]
    by_cases z : n = 0
    · subst z
      rw [if_neg (by omega)]
      have : k = 0 := by rw [hk, Nat.zero_add]; exact Nat.div_eq_of_lt (by omega)
      omega
    · rw [if_pos (by omega)]
      have e1 : ((n : Nat) : Int) - 0 - 1 = ((n - 1 : Nat) : Int) := by omega
      rw [e1]
      have e2 : (n + (c - 1)) / c = (n - 1) / c + 1 := by
        rw [show n + (c - 1) = n - 1 + c by omega, Nat.add_div_right _ h0]
      rw [hk, e2]
      simp
  have hs : Builtin.Range.small 0 (n : Nat) (c : Nat) = true := by
    unfold Builtin.Range.small
    rw [e, ffl (by decide) (by decide), ffl (by omega) (by omega), ffl (by omega) (by omega), ffl (by omega) (by omega), if_pos (by omega), ffl (by omega) (by omega)]
    simp
  exact ⟨by omega, by omega, hs, e⟩
/-- list.extend -/
theorem r_extI {a b : Addr} {xs ys : List Int} {H : Hp} {Q : VK} (h1 : H a = some (.lst (xs.map V.int))) (h2 : H b = some (.lst (ys.map V.int))) (hl : xs.length + ys.length ≤ 4000) (h : ∀ H', H' a = some (.lst ((xs ++ ys).map V.int)) → (∀ b o, b ≠ a → H b = some o → H' b = some o) → (∀ H1, Same H1 H → H1 a = none → Same H1 H') → Q .non H') : rExtend (.ref a) [.ref b] H Q :=
  ⟨a, b, _, _, rfl, rfl, h1, h2, Nat.le_trans (by rw [List.length_map, List.length_map]; exact hl) (by decide : 4000 ≤ sizeLine), h _ (by rw [upd_same, cat_ints]) (fun b o n e => by rw [upd_ne n]; exact e) fun H1 s n => same_away s n⟩
/-- a slice of a row, list or tuple -/
theorem r_slSeq {K : PySem.W.Frag} {p : Addr} {xs : List Int} {d e : Nat} {H : Hp} {Q : VK} (hde : d ≤ e) (hs : SqL K H p (xs.map V.int) ∨ SqT K H p (xs.map V.int)) (h : ∀ q H', SqL K H' q (((xs.drop d).take (e - d)).map V.int) ∨ SqT K H' q (((xs.drop d).take (e - d)).map V.int) → Same H H' → Q (.ref q) H') : rSlL K (.ref p) (some (d : Nat)) (some (e : Nat)) H Q ∨ rSlA K (.ref p) (some (d : Nat)) (some (e : Nat)) H Q := by
  rcases hs with hs | hs
  · refine .inl (r_slL hs fun q hq => h q _ (.inl (SqL.of ?_)) (same_upd hq _))
    rw [upd_same, cut_mid hde]
  · refine .inr ⟨p, _, rfl, hs, fun hw => ?_, fun _ q hq => ?_⟩
    · refine h p H (.inr ?_) (Same.refl H)
      obtain ⟨w1, w2⟩ := hw
      rw [HT.sIx_nat, List.length_map] at w1 w2
      by_cases c : d = 0
      · subst c
        rw [List.drop_zero, List.take_of_length_le (by omega)]
        exact hs
      · have e0 : xs.length = 0 := by omega
        have e1 : xs = [] := List.length_eq_zero_iff.mp e0
        subst e1
        simpa using hs
    · refine h q _ (.inr (SqT.of ?_)) (same_upd hq _)
      rw [upd_same, cut_mid hde]
theorem pe_c0 {X : Cx} {k j : Nat} {x : Str} {sp : Sp} {dvs : List V} {p pos : Pos} (c : Cal X.prog X.w X.K X.mg X.base k x sp dvs) (hr : Room j X.A) (hk : k ≤ j) (hg : Gl X x) (hdb : (x == ("__debug__" : Str)) = false := by decide) : PE X (.Call (.Name x p) [] [] pos) (tCall sp dvs C8.E0 tNil) := by
  obtain ⟨f, fd, ps, ds, F, hm, hk', b, d⟩ := c.ex
  exact pe_call0 F (hr.mono hk) hg hm hk' b d pass0 hdb

theorem eqv_ints (a b : List Int) : PyData.eqv (.list (a.map PyData.int)) (.list (b.map PyData.int)) = decide (a = b) := PySem.W.ked_eqvAll a b
/-- two rows of integers compared -/
theorem r_eqIL {K : PySem.W.Frag} {p q : Addr} {a b : List Int} {H : Hp} {Q : VK} (h1 : SqL K H p (a.map V.int)) (h2 : SqL K H q (b.map V.int)) (h : Q (.bl (decide (a = b))) H) : rEqD K (.ref p) (.ref q) H Q :=
  r_eqD (.lst h1 (dpa_ints _)) (.lst h2 (dpa_ints _)) (shaped_ints _) (shaped_ints _) (by rw [eqv_ints]; exact h)
theorem r_neIL {K : PySem.W.Frag} {p q : Addr} {a b : List Int} {H : Hp} {Q : VK} (h1 : SqL K H p (a.map V.int)) (h2 : SqL K H q (b.map V.int)) (h : Q (.bl (!decide (a = b))) H) : rNeD K (.ref p) (.ref q) H Q :=
  r_neD (.lst h1 (dpa_ints _)) (.lst h2 (dpa_ints _)) (shaped_ints _) (shaped_ints _) (by rw [eqv_ints]; exact h)
/-- a for over a text -/
theorem r_eachS {σ : St} {H : Hp} {n : St → Hp → Prop} {r : VK} {g : TG} {tb : TS} {z : Str} (Pv : Nat → St → Hp → Prop) (h0 : Pv 0 σ H)
    (hs : ∀ (i : Nat) (c : Nat) σ H, z.cps[i]? = some c → Pv i σ H → g (.str ⟨#[c]⟩) σ H fun σ2 H2 => tb ⟨Pv (i + 1), r, n, Pv (i + 1)⟩ σ2 H2) (hd : ∀ σ H, Pv z.cps.size σ H → n σ H) :
    ∃ W : Nat → Nat → St → Hp → Prop, (∃ m, W 0 m σ H) ∧ ∀ i m σ H, W i m σ H →
    ((Its z).stop i H ∧ n σ H) ∨ ((Its z).go i H ∧ ∃ N : St → Hp → Prop, (∀ σ' H', N σ' H' → ∃ m', m' < m ∧ W (i + 1) m' σ' H') ∧ ∀ x H', (Its z).yld i H x H' → g x σ H' fun σ2 H2 => tb ⟨N, r, n, N⟩ σ2 H2) := by
  refine r_each z.cps.size Pv h0 (fun i σ H hi p => ⟨hi, ?_⟩) fun σ H p => ⟨Nat.le_refl _, hd σ H p⟩
  rintro x _ ⟨rfl, c, hc, rfl⟩
  exact hs i c σ _ hc p
theorem r_itS {σ : St} {H : Hp} {te : TE} {R : It → Hp → Prop} (h : te σ H fun v H1 => ∃ x, v = .str x ∧ R (Its x) H1) : iStr te σ H R := h
def rLenK (K : Frg) : List V → Hp → VK → Prop := fun xs H Q => ∃ p ys, xs = [.ref p] ∧ (SqL K H p ys ∨ SqT K H p ys) ∧ Q (.int ys.length) H
def rListK (K : Frg) : List V → Hp → VK → Prop := fun xs H Q => ∃ p ys, xs = [.ref p] ∧ (SqL K H p ys ∨ SqT K H p ys) ∧ ∀ l, H l = none → Q (.ref l) (upd H l (.lst ys))
def rTupleK (K : Frg) : List V → Hp → VK → Prop := fun xs H Q => ∃ p ys, xs = [.ref p] ∧ ((SqL K H p ys ∧ ∀ l, H l = none → Q (.ref l) (upd H l (.tup ys))) ∨ (SqT K H p ys ∧ Q (.ref p) H))
theorem small4k {n : Nat} (h : n ≤ 4000) : n < sizeLine := Nat.lt_of_le_of_lt h (by decide)
theorem r_ifTF {b : Bool} {A B : Prop} (h1 : b = true → A) (h2 : b = false → B) : if b = true then A else B := by
  cases b with
  | true => exact h1 rfl
  | false => exact h2 rfl

/-! ### sorted: pairs of a tuple of integers and something, no two with the same integers -/
section
open PyProof.Rows PySem.W PySem.Calls
theorem lexLt_irr : ∀ a : List Int, HT.lexLt a a = false
  | [] => rfl
  | x :: xs => by
    rw [HT.lexLt_cons, if_pos rfl]
    exact lexLt_irr xs
theorem lexLt_asym : ∀ a b : List Int, HT.lexLt a b = true → HT.lexLt b a = false
  | [], [], h => by cases h
  | [], y :: ys, _ => rfl
  | x :: xs, [], h => by cases h
  | x :: xs, y :: ys, h => by
    rw [HT.lexLt_cons] at h ⊢
    by_cases e : x = y
    · rw [if_pos e] at h
      rw [if_pos e.symm]
      exact lexLt_asym xs ys h
    · rw [if_neg e] at h
      rw [if_neg (fun q => e q.symm)]
      have := of_decide_eq_true h
      exact decide_eq_false (by omega)
theorem lexLt_ntr : ∀ a b c : List Int, HT.lexLt b a = false → HT.lexLt c b = false → HT.lexLt c a = false
  | [], _, [], _, _ => rfl
  | [], _, z :: zs, _, _ => rfl
  | x :: xs, [], _, h, _ => by cases h
  | x :: xs, y :: ys, [], _, h => by cases h
  | x :: xs, y :: ys, z :: zs, h1, h2 => by
    rw [HT.lexLt_cons] at h1 h2 ⊢
    by_cases e1 : y = x
    · subst e1
      rw [if_pos rfl] at h1
      by_cases e2 : z = y
      · subst e2
        rw [if_pos rfl] at h2 ⊢
        exact lexLt_ntr xs ys zs h1 h2
      · rw [if_neg e2] at h2 ⊢
        exact h2
    · rw [if_neg e1] at h1
      have h1 := of_decide_eq_false h1
      by_cases e2 : z = y
      · subst e2
        rw [if_neg e1]
        exact decide_eq_false h1
      · rw [if_neg e2] at h2
        have h2 := of_decide_eq_false h2
        rw [if_neg (by omega)]
        exact decide_eq_false (by omega)
theorem lexLt_tri : ∀ a b : List Int, HT.lexLt a b = false → HT.lexLt b a = false → a = b
  | [], [], _, _ => rfl
  | [], y :: ys, h, _ => by cases h
  | x :: xs, [], _, h => by cases h
  | x :: xs, y :: ys, h1, h2 => by
    rw [HT.lexLt_cons] at h1 h2
    by_cases e : x = y
    · subst e
      rw [if_pos rfl] at h1 h2
      rw [lexLt_tri xs ys h1 h2]
    · rw [if_neg e] at h1
      rw [if_neg (fun q => e q.symm)] at h2
      have h1 := of_decide_eq_false h1
      have h2 := of_decide_eq_false h2
      omega
theorem lexLt_tr {a b c : List Int} (h1 : HT.lexLt a b = true) (h2 : HT.lexLt b c = true) : HT.lexLt a c = true := by
  cases h : HT.lexLt a c with
  | true => rfl
  | false =>
    have q := lexLt_ntr c a b h (lexLt_asym _ _ h1)
    rw [q] at h2
    cases h2
theorem swo_key {α : Type} (k : α → List Int) : SrtO.Swo fun v u => HT.lexLt (k v) (k u) := ⟨fun x y h => lexLt_asym _ _ h, fun x y z h1 h2 => lexLt_ntr _ _ _ h1 h2⟩
/-- a tuple of these integers in a heap -/
def IsTI (h : Heap) (q : Addr) (ns : List Int) : Prop := ∃ (o : Obj) (its : List Value) (n : Nat), h.get? q = some o ∧ o.cls = .type "tuple" ∧ o.data = .seq its.toArray n ∧ IntsAre its ns
theorem IsTI.keeps {h h' : Heap} {q : Addr} {ns : List Int} (x : IsTI h q ns) (k : ∀ b o, h.get? b = some o → o.cls = .type "tuple" → h'.get? b = some o) : IsTI h' q ns := by
  obtain ⟨o, its, n, h1, h2, h3, h4⟩ := x
  exact ⟨o, its, n, k _ _ h1 h2, h2, h3, h4⟩
theorem readsAll_ints {h : Heap} : ∀ {its : List Value} {ns : List Int}, IntsAre its ns → ReadsAll h its (ns.map PyData.int) []
  | _, _, .nil => .nil
  | _, _, .cons n t r => .cons (.int n t) (readsAll_ints r)
theorem IsTI.reads {h : Heap} {q : Addr} {ns : List Int} (x : IsTI h q ns) : Reads h (.ref q) (.tuple (ns.map PyData.int)) [] := by
  obtain ⟨o, its, n, h1, h2, h3, h4⟩ := x
  exact .tuple h1 h2 h3 (by simpa using readsAll_ints h4)
theorem lay_ints : ∀ ns : List Int, PyData.canLayAll0 (ns.map PyData.int) = true
  | [] => rfl
  | n :: ns => by
    show (PyData.canLay0 (.int n) && PyData.canLayAll0 (ns.map PyData.int)) = true
    rw [lay_ints ns]
    rfl
theorem lay_kd (ns : List Int) : (PyData.tuple (ns.map PyData.int)).canLay0 = true := lay_ints ns
theorem depth_ints : ∀ ns : List Int, PyData.depthAll (ns.map PyData.int) = 0
  | [] => rfl
  | n :: ns => by
    have e := depth_ints ns
    simp [PyData.depthAll, PyData.depth, e]
theorem depth_kd (ns : List Int) : (PyData.tuple (ns.map PyData.int)).depth ≤ 1 := by
  have e := depth_ints ns
  simp [PyData.depth, e]
theorem eqv_kd (a b : List Int) : PyData.eqv (.tuple (a.map PyData.int)) (.tuple (b.map PyData.int)) = decide (a = b) := PySem.W.ked_eqvAll a b
variable {prog : Program} {w : World} {A : Around} {s : Shared}
theorem ti_eqAt {q q' : Addr} {a b : List Int} (h1 : IsTI s.heap q a) (h2 : IsTI s.heap q' b) (hu : A.units + 1 < cLine) : SeqAt.EqAt A s (.ref q) (.ref q') (decide (a = b)) := by
  have e := SeqAt.eqAt_reads _ _ A s _ _ _ _ h1.reads h2.reads (lay_kd a) (lay_kd b) (by
    have := depth_kd a
    have := Nat.min_le_left (PyData.tuple (a.map PyData.int)).depth (PyData.tuple (b.map PyData.int)).depth
    omega)
  rw [eqv_kd] at e
  exact e
theorem ti_lt {q q' : Addr} {a b : List Int} (h1 : IsTI s.heap q a) (h2 : IsTI s.heap q' b) (hu : A.units < cLine) {E : Value → Shared → Prop} {Q : Bool → Shared → Prop} (h : Q (HT.lexLt a b) s) : wpAny (model prog w) A (oneLt' false (.ref q) (.ref q')) Q E s := by
  obtain ⟨o1, i1, n1, a1, a2, a3, a4⟩ := h1
  obtain ⟨o2, i2, n2, b1, b2, b3, b4⟩ := h2
  refine PySem.W.kat_one _ _ (HT.lt_tupInts (items := i1.toArray) (items2 := i2.toArray) ⟨o1, a1, a2, n1, a3⟩ ⟨o2, b1, b2, n2, b3⟩ (by simpa using a4) (by simpa using b4) hu ?_)
  exact h
/-- such a pair -/
def IsEnt (h : Heap) (v : Value) (ns : List Int) : Prop := ∃ (a q u : Addr) (o : Obj) (n : Nat), v = .ref a ∧ h.get? a = some o ∧ o.cls = .type "tuple" ∧ o.data = .seq #[.ref q, .ref u] n ∧ IsTI h q ns
theorem IsEnt.keeps {h h' : Heap} {v : Value} {ns : List Int} (x : IsEnt h v ns) (k : ∀ b o, h.get? b = some o → o.cls = .type "tuple" → h'.get? b = some o) : IsEnt h' v ns := by
  obtain ⟨a, q, u, o, n, e, h1, h2, h3, h4⟩ := x
  exact ⟨a, q, u, o, n, e, k _ _ h1 h2, h2, h3, h4.keeps k⟩
theorem ents_firsts {h : Heap} {k : Value → List Int} : ∀ {vs : List Value}, (∀ v ∈ vs, IsEnt h v (k v)) → ∃ fs : List Value, PySem.W.KatTups h vs fs ∧ fs.length = vs.length ∧ ∀ f ∈ fs, ∃ q ns, f = Value.ref q ∧ IsTI h q ns
  | [], _ => ⟨[], PySem.W.KatTups.nil, rfl, fun _ hm => by simp at hm⟩
  | v :: vs, hp => by
    obtain ⟨fs, h1, h2, h3⟩ := ents_firsts (vs := vs) fun v' hm => hp v' (List.mem_cons_of_mem _ hm)
    obtain ⟨a, q, u, o, n, e, ho, hc, hd, ht⟩ := hp v (List.mem_cons_self ..)
    subst e
    refine ⟨.ref q :: fs, PySem.W.KatTups.cons ho hc hd rfl h1, by rw [List.length_cons, List.length_cons, h2], fun f hm => ?_⟩
    rcases List.mem_cons.mp hm with rfl | hm
    · exact ⟨q, _, rfl, ht⟩
    · exact h3 f hm
theorem ent_cmp {vs : List Value} {k : Value → List Int} (hu : A.units + 1 < cLine) (hp : ∀ v ∈ vs, IsEnt s.heap v (k v)) (hi : ∀ v ∈ vs, ∀ u ∈ vs, k v = k u → v = u) : SrtO.Cmp prog w A s (tuples' false) (fun p => p.1 ∈ vs) (SrtO.lt2 fun v u => HT.lexLt (k v) (k u)) := by
  intro p q hm hm'
  have h1 := hp _ hm
  have h2 := hp _ hm'
  have hij := hi _ hm _ hm'
  show wpAny (model prog w) A (keyLt' (tuples' false) p.1 q.1) (fun r s' => s' = s ∧ r = HT.lexLt (k p.1) (k q.1)) (fun _ _ => False) s
  generalize k p.1 = x at h1 hij ⊢
  generalize k q.1 = y at h2 hij ⊢
  obtain ⟨a, q1, u, o, n, e, ho, hc, hd, t1⟩ := h1
  obtain ⟨a', q2, u', o', n', e', ho', hc', hd', t2⟩ := h2
  rw [e, e'] at hij ⊢
  refine PySem.W.kat_lt ho hd ho' hd' ?_
  show PySem.W.KatLex prog w A false (decide (2 < 2)) _ [(.ref q1, .ref q2), (.ref u, .ref u')] 0 s
  refine PySem.W.kat_cons (ti_eqAt t1 t2 hu prog w _ _ ?_)
  refine PySem.W.kat_go (fun e1 => ?_) (fun e1 => ?_)
  · have ex : x = y := of_decide_eq_true e1
    have ea := hij ex
    have ea : a = a' := by
      injection ea
    subst ea
    have eo : o = o' := Option.some.inj (ho.symm.trans ho')
    subst eo
    rw [hd] at hd'
    have eu : u = u' := by
      injection hd' with e1 e2
      simp at e1
      exact e1.2
    subst eu
    refine PySem.W.kat_yes (PySem.W.kat_cons (SeqAt.EqAt.same _ prog w _ _ ?_))
    refine PySem.W.kat_go (fun e2 => ?_) (fun e2 => by cases e2)
    refine PySem.W.kat_yes (PySem.W.kat_nil ⟨rfl, ?_⟩)
    rw [ex, lexLt_irr]
    rfl
  · exact PySem.W.kat_no (ti_lt t1 t2 (by omega) ⟨rfl, rfl⟩)
theorem ents_sortable {a : Addr} {vs : List Value} {k : Value → List Int} (hu : A.units + 1 < cLine) (h0 : 0 < vs.length) (hp : ∀ v ∈ vs, IsEnt s.heap v (k v)) (hi : ∀ v ∈ vs, ∀ u ∈ vs, k v = k u → v = u) (ha : ∀ o, s.heap.get? a = some o → o.cls ≠ .type "tuple") : SrtO.SortableO prog w A s a vs fun v u => HT.lexLt (k v) (k u) := by
  intro h' keep
  have kp : ∀ b o, s.heap.get? b = some o → o.cls = .type "tuple" → h'.get? b = some o := fun b o e c => keep b o (fun z => by subst z; exact ha o e c) e
  have hp' : ∀ v ∈ vs, IsEnt h' v (k v) := fun v hm => (hp v hm).keeps kp
  obtain ⟨fs, h1, h2, h3⟩ := ents_firsts hp'
  refine ⟨tuples' false, fun Q E hq => ?_, ent_cmp hu hp' hi⟩
  refine PySem.W.kat_kind (T := .type "tuple") h1 (by omega) (fun f hm => ?_) (by rfl) ?_
  · obtain ⟨q, ns, rfl, o, its, n, g1, g2, g3, g4⟩ := h3 f hm
    have e : PySem.W.Looks (model prog w) h' (typeOf (.ref q)) o.cls := (PySem.W.Looks.ld g1).andThen .now
    rw [g2] at e
    exact e
  · have e : (Value.type "tuple" != Value.type "tuple") = false := by first | decide +kernel | rfl | decide
    rw [e]
    exact hq
theorem sorted_ents {l : Addr} {vs : List Value} {k : Value → List Int} {E : Value → Shared → Prop} {Q : Value → Shared → Prop} (hu : A.units + 10 < cLine) (hl : s.heap.IsList l vs.toArray) (hz : vs.length ≤ sizeLine) (hp : ∀ v ∈ vs, IsEnt s.heap v (k v)) (hi : ∀ v ∈ vs, ∀ u ∈ vs, k v = k u → v = u)
    (h : ∀ (h' : Heap) (d : Addr) (out : List Value), SrtO.Srtd (fun v u => HT.lexLt (k v) (k u)) out → SrtO.Stb (fun v u => HT.lexLt (k v) (k u)) out vs → (∀ b o, s.heap.get? b = some o → h'.get? b = some o) → s.heap.objs.size ≤ d → (∃ n, h'.get? d = some (seqObj "list" out.toArray n)) → Q (.ref d) { s with heap := h' }) :
    wpAny (model prog w) A (call (.builtin "sorted") [.ref l]) Q E s := by
  refine SrtO.sorted_ord (swo_key k) hl hz (fun h2 h₁ a ha kk => ?_) fun out hs hb => ?_
  · refine ents_sortable (s := { s with heap := h₁ }) (by
      show A.units + 1 + 1 + 1 < cLine
      omega) (by omega) (fun v hm => (hp v hm).keeps fun b o e _ => (kk b o e).2) hi fun o e => ?_
    have e' : some o = some (seqObj "list" vs.toArray 0) := e.symm.trans ha
    cases e'
    intro c
    exact absurd (Value.type.inj c) (by decide)
  · exact h _ _ out hs hb (fun b o e => sortedAll_old e) (Nat.le_succ _) (sortedAll_at s.heap vs out.toArray)
/-! ### sorted: tuples of integers of any lengths -/
theorem one_lt_ti {q q' : Addr} {a b : List Int} {x : Bool} (h1 : IsTI s.heap q a) (h2 : IsTI s.heap q' b) (hu : A.units + 1 < cLine) {E : Value → Shared → Prop} {Q : Bool → Shared → Prop} (h : Q (HT.lexLt a b) s) : wpAny (model prog w) A (oneLt' x (.ref q) (.ref q')) Q E s := by
  cases x with
  | false => exact ti_lt h1 h2 (by omega) h
  | true =>
    obtain ⟨⟨cls, dd, data, sl⟩, i1, n1, a1, a2, a3, a4⟩ := h1
    obtain ⟨⟨cls2, dd2, data2, sl2⟩, i2, n2, b1, b2, b3, b4⟩ := h2
    simp only at a2 a3 b2 b3
    subst a2 a3 b2 b3
    rw [oneLt'_eq]
    simp only [if_true]
    refine wpAny_bind (wpAny_cRoomFor (by omega) ?_)
    refine wpAny_bind (wpAny_callSpecialIfBound?_slot (name := Str.ofString "__lt__") ⟨_, a1, rfl⟩ PySem.F.slot_tuple_lt (call_meets PySem.F.slot_tuple_lt ⟨_, a1, rfl⟩ PySem.F.entry_tuple_lt (PySem.F.args_tuple_lt_2 _ _) (HT.tuple_lt_ints q q' i1.toArray i2.toArray n1 n2 dd dd2 sl sl2 a b (by simpa using a4) (by simpa using b4)) ⟨a1, b1, ?_⟩))
    exact wpAny_truthy_bool h
theorem ti_lex {fin : Bool} {Q : Bool → Shared → Prop} : ∀ {vs us : List Value} {a b : List Int}, IntsAre vs a → IntsAre us b → (i : Nat) → (hf : a.length + us.length = a.length + us.length) → (∀ r, (∀ c d : List Int, c.length = a.length → d.length = b.length → True) → (r = HT.lexLt a b ∨ (r = fin ∧ (a.length ≤ b.length ∨ b.length ≤ a.length) ∧ HT.lexLt a b = decide (a.length < b.length) ∧ a.take b.length = b.take a.length)) → Q r s) →
    PySem.W.KatLex prog w A true fin Q (vs.zip us) i s
  | _, _, [], b, .nil, hb, i, _, h => by
    show Q fin s
    refine h fin (fun _ _ _ _ => trivial) (.inr ⟨rfl, .inl (Nat.zero_le _), ?_, by simp⟩)
    cases b with
    | nil => rfl
    | cons y ys => rfl
  | _, _, x :: a, [], .cons _ _ ra, .nil, i, _, h => by
    show Q fin s
    exact h fin (fun _ _ _ _ => trivial) (.inr ⟨rfl, .inr (Nat.zero_le _), rfl, by simp⟩)
  | _, _, x :: a, y :: b, .cons _ t ra, .cons _ u rb, i, _, h => by
    show PySem.W.KatLex prog w A true fin Q ((.int x t, .int y u) :: _) i s
    refine PySem.W.kat_cons (SeqAt.EqAt.int_int x t y u prog w _ _ ?_)
    refine PySem.W.kat_go (fun e1 => ?_) (fun e1 => ?_)
    · have ex : x = y := by simpa using e1
      subst ex
      refine PySem.W.kat_yes (ti_lex ra rb (i + 1) rfl fun r _ hr => h r (fun _ _ _ _ => trivial) ?_)
      rw [HT.lexLt_cons, if_pos rfl]
      rcases hr with hr | ⟨hr, h1, h2, h3⟩
      · exact .inl hr
      · refine .inr ⟨hr, ?_, ?_, ?_⟩
        · rw [List.length_cons, List.length_cons]
          omega
        · rw [h2, List.length_cons, List.length_cons]
          exact decide_eq_decide.mpr (by omega)
        · rw [List.length_cons, List.length_cons, List.take_succ_cons, List.take_succ_cons, h3]
    · have ex : ¬ x = y := by simpa using e1
      refine PySem.W.kat_no ?_
      have e3 : HT.lexLt (x :: a) (y :: b) = decide (x < y) := by rw [HT.lexLt_cons, if_neg ex]
      have hq : Q (decide (x < y)) s := h _ (fun _ _ _ _ => trivial) (.inl e3.symm)
      cases hb : (true && i == 0) with
      | true => exact oneLt_int hq
      | false => exact PySem.W.kat_one _ _ (PyProof.Rows.lt_int hq)
theorem ti_tuples {q q' : Addr} {a b : List Int} (h1 : IsTI s.heap q a) (h2 : IsTI s.heap q' b) {E : Value → Shared → Prop} {Q : Bool → Shared → Prop} (h : Q (HT.lexLt a b) s) : wpAny (model prog w) A (keyLt' (tuples' true) (.ref q) (.ref q')) Q E s := by
  obtain ⟨o1, i1, n1, a1, a2, a3, a4⟩ := h1
  obtain ⟨o2, i2, n2, b1, b2, b3, b4⟩ := h2
  refine PySem.W.kat_lt a1 a3 b1 b3 ?_
  have la := a4.length
  have lb := b4.length
  show PySem.W.KatLex prog w A true (decide (i1.toArray.size < i2.toArray.size)) Q (i1.zip i2) 0 s
  refine ti_lex a4 b4 0 rfl fun r _ hr => ?_
  rcases hr with hr | ⟨hr, _, h3, _⟩
  · rw [hr]
    exact h
  · rw [hr]
    have e : decide (i1.toArray.size < i2.toArray.size) = HT.lexLt a b := by
      rw [h3, List.size_toArray, List.size_toArray, la, lb]
    rw [e]
    exact h
def TiV (h : Heap) (v : Value) (ns : List Int) : Prop := ∃ q, v = .ref q ∧ IsTI h q ns
theorem ti_firsts {h : Heap} {k : Value → List Int} : ∀ {vs : List Value}, (∀ v ∈ vs, TiV h v (k v)) → (∀ v ∈ vs, k v ≠ []) → ∃ fs : List Value, PySem.W.KatTups h vs fs ∧ fs.length = vs.length ∧ ∀ f ∈ fs, ∃ x t, f = Value.int x t
  | [], _, _ => ⟨[], PySem.W.KatTups.nil, rfl, fun _ hm => by simp at hm⟩
  | v :: vs, hp, hn => by
    obtain ⟨fs, h1, h2, h3⟩ := ti_firsts (vs := vs) (fun v' hm => hp v' (List.mem_cons_of_mem _ hm)) (fun v' hm => hn v' (List.mem_cons_of_mem _ hm))
    obtain ⟨q, e, o, its, n, ho, hc, hd, ht⟩ := hp v (List.mem_cons_self ..)
    have hne := hn v (List.mem_cons_self ..)
    subst e
    revert hne ht
    generalize k (.ref q) = ns
    intro ht hne
    cases ht with
    | nil => exact absurd rfl hne
    | @cons x t vs' ns' r =>
      refine ⟨.int x t :: fs, PySem.W.KatTups.cons ho hc hd rfl h1, by rw [List.length_cons, List.length_cons, h2], fun f hm => ?_⟩
      rcases List.mem_cons.mp hm with rfl | hm
      · exact ⟨x, t, rfl⟩
      · exact h3 f hm
theorem ti_first {v : Value} {ns : List Int} (h : TiV s.heap v ns) {E : Value → Shared → Prop} {Q : Option Value → Shared → Prop} (q : ∀ r : Option Value, (r.isSome = true ↔ ns ≠ []) → Q r s) : wpAny (model prog w) A (firstOfTuple' v) Q E s := by
  obtain ⟨a, rfl, o, its, n, ho, hc, hd, ht⟩ := h
  rw [PySem.W.kas_first_eq]
  refine wpAny_bind (PySem.W.Looks.here (show PySem.W.Looks (model prog w) s.heap (typeOf (.ref a)) o.cls from (PySem.W.Looks.ld ho).andThen .now) ?_)
  rw [hc, if_neg (by first | decide | simp)]
  refine wpAny_bind (listItems_at ho hd (wpAny_pure ?_))
  refine q _ ?_
  cases ht with
  | nil => simp
  | cons x t r => simp
theorem ti_firstsM {k : Value → List Int} {E : Value → Shared → Prop} : ∀ {vs : List Value} {Q : List (Option Value) → Shared → Prop}, (∀ v ∈ vs, TiV s.heap v (k v)) → (∀ rs : List (Option Value), rs.length = vs.length → (∀ (i : Nat) (v : Value) (r : Option Value), vs[i]? = some v → rs[i]? = some r → (r.isSome = true ↔ k v ≠ [])) → Q rs s) → wpAny (model prog w) A (vs.mapM firstOfTuple') Q E s
  | [], Q, _, h => by
    rw [List.mapM_nil]
    exact wpAny_pure (h [] rfl fun i v r e => by simp at e)
  | v :: vs, Q, hp, h => by
    rw [List.mapM_cons]
    refine wpAny_bind (ti_first (hp v (List.mem_cons_self ..)) fun r hr => ?_)
    refine wpAny_bind (ti_firstsM (vs := vs) (fun v' hm => hp v' (List.mem_cons_of_mem _ hm)) fun rs hl hrs => wpAny_pure (h (r :: rs) (by rw [List.length_cons, List.length_cons, hl]) fun i v' r' e1 e2 => ?_))
    cases i with
    | zero =>
      cases (show some v = some v' from e1)
      cases (show some r = some r' from e2)
      exact hr
    | succ i => exact hrs i v' r' (by simpa using e1) (by simpa using e2)
theorem ti_types {E : Value → Shared → Prop} {k : Value → List Int} {vs : List Value} {Q : Option Value → Shared → Prop} (h0 : 0 < vs.length) (hp : ∀ v ∈ vs, TiV s.heap v (k v)) (h : Q (some (.type "tuple")) s) : wpAny (model prog w) A (oneTypeOnly' vs.toArray) Q E s := by
  obtain ⟨v1, vr, rfl⟩ : ∃ v1 vr, vs = v1 :: vr := by
    match vs, h0 with
    | v1 :: vr, _ => exact ⟨v1, vr, rfl⟩
  rw [oneTypeOnly'_eq, List.mapM_toArray, map_eq_pure_bind]
  refine wpAny_bind (wpAny_bind (PySem.W.kas_mapM (r := .type "tuple") _ (fun v hv Q' hq => ?_) (wpAny_pure ?_)))
  · obtain ⟨a, rfl, o, its, n, ho, hc, hd, ht⟩ := hp v hv
    have e : PySem.W.Looks (model prog w) s.heap (typeOf (.ref a)) o.cls := (PySem.W.Looks.ld ho).andThen .now
    rw [hc] at e
    exact e.here hq
  · have hall2 : ((List.map (fun _ => Value.type "tuple") (v1 :: vr)).toArray.all fun x => x == Value.type "tuple") = true := by
      simp only [List.all_toArray, List.all_map, List.all_eq_true]
      intro _ _
      rfl
    have h1 : (List.map (fun _ => Value.type "tuple") (v1 :: vr)).toArray[0]? = some (Value.type "tuple") := by simp
    rw [h1]
    simp only [hall2, if_true]
    exact wpAny_pure h
theorem ti_kind {k : Value → List Int} {vs : List Value} (h0 : 0 < vs.length) (hp : ∀ v ∈ vs, TiV s.heap v (k v)) : ∃ κ, (κ = tuples' true ∨ κ = general' ∨ κ = oneType') ∧ ∀ (Q : SortKind → Shared → Prop) (E : Value → Shared → Prop), Q κ s → wpAny (model prog w) A (keyKind' vs.toArray) Q E s := by
  by_cases hn : ∀ v ∈ vs, k v ≠ []
  · obtain ⟨fs, h1, h2, h3⟩ := ti_firsts hp hn
    refine ⟨tuples' true, .inl rfl, fun Q E hq => ?_⟩
    refine PySem.W.kat_kind (T := .type "int") h1 (by omega) (fun f hm => ?_) (by rfl) ?_
    · obtain ⟨x, t, rfl⟩ := h3 f hm
      exact PySem.W.Looks.now
    · have e : (Value.type "int" != Value.type "tuple") = true := by first | decide +kernel | rfl | decide
      rw [e]
      exact hq
  · obtain ⟨v, hv, hve⟩ : ∃ v ∈ vs, k v = [] := by
      refine Classical.byContradiction fun q => hn fun v hv e => q ⟨v, hv, e⟩
    obtain ⟨i, hi, hiv⟩ := List.getElem_of_mem hv
    have hiv : vs[i]? = some v := by rw [List.getElem?_eq_getElem hi, hiv]
    have no : ∀ rs : List (Option Value), rs.length = vs.length → (∀ (i : Nat) (v : Value) (r : Option Value), vs[i]? = some v → rs[i]? = some r → (r.isSome = true ↔ k v ≠ [])) → (rs.toArray.all fun x => x.isSome) = false := fun rs hl hrs => by
      cases hh : (rs.toArray.all fun x => x.isSome) with
      | false => rfl
      | true =>
        rw [List.all_toArray, List.all_eq_true] at hh
        have hir : i < rs.length := by omega
        have h1 := hrs i v rs[i] hiv (List.getElem?_eq_getElem hir)
        exact absurd hve (h1.mp (hh _ (List.getElem_mem hir)))
    by_cases hf : ∀ v0, vs[0]? = some v0 → k v0 ≠ []
    · refine ⟨general', .inr (.inl rfl), fun Q E hq => ?_⟩
      rw [kat_kind_eq, List.mapM_toArray, map_eq_pure_bind]
      refine wpAny_bind (wpAny_bind (ti_firstsM hp fun rs hl hrs => wpAny_pure ?_))
      rw [if_neg (by rw [no rs hl hrs]; decide)]
      have h00 : 0 < rs.length := by omega
      have e0 : (rs.toArray[0]?.bind id).isSome = true := by
        have hv0 : vs[0]? = some vs[0] := List.getElem?_eq_getElem h0
        have := (hrs 0 _ rs[0] hv0 (List.getElem?_eq_getElem h00)).mpr (hf _ hv0)
        simp [h00, this]
      rw [if_pos e0]
      exact wpAny_pure hq
    · obtain ⟨v0, hv0, hk0⟩ : ∃ v0, vs[0]? = some v0 ∧ k v0 = [] := by
        refine Classical.byContradiction fun q => hf fun v hv e => q ⟨v, hv, e⟩
      refine ⟨oneType', .inr (.inr rfl), fun Q E hq => ?_⟩
      rw [kat_kind_eq, List.mapM_toArray, map_eq_pure_bind]
      refine wpAny_bind (wpAny_bind (ti_firstsM hp fun rs hl hrs => wpAny_pure ?_))
      rw [if_neg (by rw [no rs hl hrs]; decide)]
      have h00 : 0 < rs.length := by omega
      have e0 : ¬ (rs.toArray[0]?.bind id).isSome = true := by
        have h1 := hrs 0 _ rs[0] hv0 (List.getElem?_eq_getElem h00)
        have h2 : ¬ rs[0].isSome = true := fun z => absurd hk0 (h1.mp z)
        simp [h00]
        simpa using h2
      rw [if_neg e0]
      refine wpAny_bind (ti_types h0 hp ?_)
      exact wpAny_pure hq
theorem ti_cmp {vs : List Value} {k : Value → List Int} {κ : SortKind} (hκ : κ = tuples' true ∨ κ = general' ∨ κ = oneType') (hu : A.units + 1 < cLine) (hp : ∀ v ∈ vs, TiV s.heap v (k v)) : SrtO.Cmp prog w A s κ (fun p => p.1 ∈ vs) (SrtO.lt2 fun v u => HT.lexLt (k v) (k u)) := by
  intro p q hm hm'
  obtain ⟨a, e1, h1⟩ := hp _ hm
  obtain ⟨b, e2, h2⟩ := hp _ hm'
  show wpAny (model prog w) A (keyLt' κ p.1 q.1) (fun r s' => s' = s ∧ r = HT.lexLt (k p.1) (k q.1)) (fun _ _ => False) s
  generalize k p.1 = x at h1 ⊢
  generalize k q.1 = y at h2 ⊢
  rw [e1, e2]
  rcases hκ with e | e | e
  · subst e
    exact ti_tuples h1 h2 ⟨rfl, rfl⟩
  · subst e
    exact one_lt_ti (x := false) h1 h2 hu ⟨rfl, rfl⟩
  · subst e
    exact one_lt_ti (x := true) h1 h2 hu ⟨rfl, rfl⟩
theorem IsTI.of_keeps {h h' : Heap} {v : Value} {ns : List Int} (x : TiV h v ns) (k : ∀ b o, h.get? b = some o → o.cls = .type "tuple" → h'.get? b = some o) : TiV h' v ns := by
  obtain ⟨q, e, t⟩ := x
  exact ⟨q, e, t.keeps k⟩
theorem tis_sortable {a : Addr} {vs : List Value} {k : Value → List Int} (hu : A.units + 1 < cLine) (h0 : 0 < vs.length) (hp : ∀ v ∈ vs, TiV s.heap v (k v)) (ha : ∀ o, s.heap.get? a = some o → o.cls ≠ .type "tuple") : SrtO.SortableO prog w A s a vs fun v u => HT.lexLt (k v) (k u) := by
  intro h' keep
  have kp : ∀ b o, s.heap.get? b = some o → o.cls = .type "tuple" → h'.get? b = some o := fun b o e c => keep b o (fun z => by subst z; exact ha o e c) e
  have hp' : ∀ v ∈ vs, TiV h' v (k v) := fun v hm => IsTI.of_keeps (hp v hm) kp
  obtain ⟨κ, hκ, hk⟩ := ti_kind (prog := prog) (w := w) (A := A) (s := { s with heap := h' }) h0 hp'
  exact ⟨κ, hk, ti_cmp hκ hu hp'⟩
/-- the keys of a dict, one by one -/
theorem rawSrc {d : Addr} {es : Array DictEntry} {ep : Nat} (lo : (d == sysModules) = false) : KdlSrc prog w "dict" d d es.size (fun i v => ∃ en, es[i]? = some en ∧ v = en.key) (fun h => DT.Raw h d es ep) where
  type := fun _ hm => hm.typeIs
  there := fun _ hm => ⟨hm.lt, hm.lt⟩
  keep := fun _ _ hm hk => hm.at' fun o e => hk d (.inl rfl) o e
  notList := by decide
  notTuple := by decide
  hint := fun _ _ _ _ hm hq => kdl_hint_dict hm.typeIs hq
  iter := fun A s hh hm => by
    obtain ⟨o, ho, hc, hdat⟩ := id hm
    refine ⟨_, fun i h => h.IsKeyIter s.heap.objs.size d i es.size ep ∧ DT.Raw h d es ep, fun _ _ hq => L2.iter_keys lo ho hc hdat hq, ?_, ⟨⟨_, Heap.get?_push_size _ rfl, rfl, rfl⟩, hm.push _⟩⟩
    have hne : d ≠ s.heap.objs.size := Nat.ne_of_lt hm.lt
    refine ⟨fun b hb => by simp at hb; simp [hb], fun i h h' st hk => ⟨st.1.at fun o e => hk _ (by simp) o e, st.2.at' fun o e => hk d (by simp) o e⟩, fun i s Q E hi st hQ => ?_, fun s Q E st hQ => ?_, fun i s Q E st hQ => wpAny_pyIter_keyiter st.1 hQ⟩
    · obtain ⟨od, hod, hoc, hdd⟩ := id st.2
      refine L2.next_key_item st.1 hod hdd rfl (Array.getElem?_eq_getElem hi) fun h' hit' hs' => ?_
      exact hQ _ h' s.toks ⟨_, Array.getElem?_eq_getElem hi, rfl⟩ ⟨hit', st.2.at' fun o e => hs'.extBut d o hne e⟩ fun b o hb e => hs'.extBut b o (fun h => hb (by simp [h])) e
    · obtain ⟨od, hod, hoc, hdd⟩ := id st.2
      exact L2.next_key_end hh st.1 hod hdd rfl (Nat.le_refl _) fun h' he' => hQ h' s.toks fun b o hb e => he' b o (fun h => hb (by simp [h])) e
end
/-! ### .. as rules of the layer -/
section
open PyProof.Rows PySem.W PySem.Calls
theorem ints_uniq : ∀ {vs : List Value} {a b : List Int}, IntsAre vs a → IntsAre vs b → a = b
  | _, _, _, .nil, .nil => rfl
  | _, _, _, .cons n t r, .cons _ _ r2 => by rw [ints_uniq r r2]
theorem IsTI.uniq {h : Heap} {q : Addr} {a b : List Int} (x : IsTI h q a) (y : IsTI h q b) : a = b := by
  obtain ⟨o, i, n, h1, h2, h3, h4⟩ := x
  obtain ⟨o', i', n', g1, g2, g3, g4⟩ := y
  rw [h1] at g1
  cases g1
  rw [h3] at g3
  have e : i = i' := by
    injection g3 with e1 e2
    simpa using e1
  subst e
  exact ints_uniq h4 g4
theorem IsEnt.uniq {h : Heap} {v : Value} {a b : List Int} (x : IsEnt h v a) (y : IsEnt h v b) : a = b := by
  obtain ⟨t, q, u, o, n, e, h1, h2, h3, h4⟩ := x
  obtain ⟨t', q', u', o', n', e', g1, g2, g3, g4⟩ := y
  rw [e] at e'
  cases e'
  rw [h1] at g1
  cases g1
  rw [h3] at g3
  have e : q = q' := by
    injection g3 with e1 e2
    simp at e1
    exact e1.1
  subst e
  exact h4.uniq g4
open Classical in
noncomputable def entK (h : Heap) (v : Value) : List Int := if hx : ∃ ns, IsEnt h v ns then Classical.choose hx else []
theorem entK_is {h : Heap} {v : Value} {ns : List Int} (x : IsEnt h v ns) : entK h v = ns := by
  have hx : ∃ ns, IsEnt h v ns := ⟨ns, x⟩
  unfold entK
  rw [dif_pos hx]
  exact (Classical.choose_spec hx).uniq x
open Classical in
noncomputable def tiK (h : Heap) (v : Value) : List Int := if hx : ∃ ns, TiV h v ns then Classical.choose hx else []
theorem TiV.uniq {h : Heap} {v : Value} {a b : List Int} (x : TiV h v a) (y : TiV h v b) : a = b := by
  obtain ⟨q, e, t⟩ := x
  obtain ⟨q', e', t'⟩ := y
  rw [e] at e'
  cases e'
  exact t.uniq t'
theorem tiK_is {h : Heap} {v : Value} {ns : List Int} (x : TiV h v ns) : tiK h v = ns := by
  have hx : ∃ ns, TiV h v ns := ⟨ns, x⟩
  unfold tiK
  rw [dif_pos hx]
  exact (Classical.choose_spec hx).uniq x
structure Ent where
  t : Addr
  q : Addr
  u : Addr
  k : List Int
def EntAt (H : Hp) (e : Ent) : Prop := H e.t = some (.tup [.ref e.q, .ref e.u]) ∧ H e.q = some (.tup (e.k.map V.int))
variable {X : Cx}
theorem ti_of {pins : List (Addr × Obj)} {σ : L2.St} {H : Hp} {s : Shared} (I : L2.Inv X pins σ H s) {q : Addr} {ns : List Int} (h : H q = some (.tup (ns.map V.int))) : IsTI s.heap q ns := by
  obtain ⟨_, its, rv, o, ho, hc, n, hd⟩ := I.hok _ _ h
  exact ⟨o, its, n, ho, hc, hd, rv.ints⟩
theorem ent_of {pins : List (Addr × Obj)} {σ : L2.St} {H : Hp} {s : Shared} (I : L2.Inv X pins σ H s) {e : Ent} (h : EntAt H e) : IsEnt s.heap (.ref e.t) e.k := by
  obtain ⟨h1, h2⟩ := h
  obtain ⟨_, its, rv, o, ho, hc, n, hd⟩ := I.hok _ _ h1
  obtain ⟨u1, u2, rfl, r1, r2⟩ := vals2 rv
  cases r1
  cases r2
  exact ⟨e.t, e.q, e.u, o, n, rfl, ho, hc, hd, ti_of I h2⟩
theorem vals_refs {α : Type} (f : α → Addr) : ∀ {l : List α} {us : List Value}, Vals (l.map fun z => V.ref (f z)) us → us = l.map fun z => Value.ref (f z)
  | [], us, h => by cases h; rfl
  | z :: l, us, h => by
    cases h with
    | cons r t =>
      cases r
      rw [vals_refs f t]
      rfl
theorem vals_refsB {α : Type} (f : α → Addr) : ∀ (l : List α), Vals (l.map fun z => V.ref (f z)) (l.map fun z => Value.ref (f z))
  | [] => .nil
  | z :: l => .cons rfl (vals_refsB f l)
theorem perm_up {α β : Type} (f : α → β) : ∀ {out : List β} {l : List α}, out.Perm (l.map f) → ∃ zs : List α, zs.Perm l ∧ zs.map f = out := by
  intro out l h
  generalize hm : l.map f = m at h
  induction h generalizing l with
  | nil =>
    cases l with
    | nil => exact ⟨[], .refl _, rfl⟩
    | cons x l => cases hm
  | @cons b out m p ih =>
    cases l with
    | nil => cases hm
    | cons x l =>
      injection hm with e1 e2
      obtain ⟨zs, pz, ez⟩ := ih e2
      exact ⟨x :: zs, pz.cons x, by rw [List.map_cons, e1, ez]⟩
  | swap b c m =>
    cases l with
    | nil => cases hm
    | cons x l =>
      cases l with
      | nil => cases hm
      | cons y l =>
        injection hm with e1 e2
        injection e2 with e2 e3
        exact ⟨y :: x :: l, .swap _ _ _, by rw [List.map_cons, List.map_cons, e1, e2, e3]⟩
  | trans p1 p2 ih1 ih2 =>
    obtain ⟨z2, q2, e2⟩ := ih2 hm
    obtain ⟨z1, q1, e1⟩ := ih1 e2
    exact ⟨z1, q1.trans q2, e1⟩
/-- sorted(xs), xs a list of pairs of a tuple of integers and an object, no two with the same integers -/
def rSortedE (K : PySem.W.Frag) : List V → Hp → VK → Prop := fun vs H Q => ∃ (a : Addr) (es : List Ent), vs = [V.ref a] ∧ SqL K H a (es.map fun e => V.ref e.t) ∧ (∀ e ∈ es, EntAt H e) ∧ (es.map (·.k)).Nodup ∧
  ∀ (es' : List Ent) (p : Addr), es'.Perm es → (es'.map (·.k)).Pairwise (fun x y => HT.lexLt x y = true) → H p = none → Q (.ref p) (upd H p (.lst (es'.map fun e => V.ref e.t)))
theorem strict_of {l : List (List Int)} (h1 : l.Pairwise (fun x y => HT.lexLt y x = false)) (h2 : l.Nodup) : l.Pairwise (fun x y => HT.lexLt x y = true) := by
  refine (List.Pairwise.and h1 h2).imp fun {x y} ⟨a, b⟩ => ?_
  cases h : HT.lexLt x y with
  | true => rfl
  | false => exact absurd (lexLt_tri _ _ h a) b
theorem cr_sortedE (hu : X.A.units + 64 < cLine) : CallR X (.builtin "sorted") (rSortedE X.K) := by
  intro pins s σ H vs us Q I r h
  obtain ⟨a, es, rfl, hs, he, hn, q⟩ := h
  obtain ⟨its, rv, hl, hz⟩ := I.list hs
  obtain ⟨u, rfl, ru⟩ := vals1 r
  obtain rfl : u = Value.ref a := ru
  have ei := vals_refs (fun e : Ent => e.t) rv
  have at_ : ∀ v ∈ its, ∃ e ∈ es, v = .ref e.t ∧ entK s.heap v = e.k ∧ IsEnt s.heap v e.k := fun v hv => by
    rw [ei] at hv
    obtain ⟨e, hm, rfl⟩ := List.mem_map.mp hv
    have x := ent_of I (he e hm)
    exact ⟨e, hm, rfl, entK_is x, x⟩
  have inj : ∀ e ∈ es, ∀ f ∈ es, e.k = f.k → e = f := fun e h1 f h2 hk => by
    obtain ⟨i, hi, ei⟩ := List.getElem_of_mem h1
    obtain ⟨j, hj, ej⟩ := List.getElem_of_mem h2
    have := List.pairwise_iff_getElem.mp hn
    rcases Nat.lt_trichotomy i j with c | c | c
    · have q := this i j (by rw [List.length_map]; exact hi) (by rw [List.length_map]; exact hj) c
      rw [List.getElem_map, List.getElem_map, ei, ej] at q
      exact absurd hk q
    · subst c
      exact ei.symm.trans ej
    · have q := this j i (by rw [List.length_map]; exact hj) (by rw [List.length_map]; exact hi) c
      rw [List.getElem_map, List.getElem_map, ei, ej] at q
      exact absurd hk.symm q
  refine sorted_ents (k := entK s.heap) (by omega) hl.isList (by rw [← rv.length]; exact hz) (fun v hv => ?_) (fun v hv u hu' hk => ?_) fun h' d out h1 h2 kp hd hn' => ?_
  · obtain ⟨e, _, _, e2, x⟩ := at_ v hv
    rw [e2]
    exact x
  · obtain ⟨e, m1, e1, e2, _⟩ := at_ v hv
    obtain ⟨f, m2, f1, f2, _⟩ := at_ u hu'
    rw [e2, f2] at hk
    rw [e1, f1, inj e m1 f m2 hk]
  · have pe := h2.perm
    rw [ei] at pe
    obtain ⟨zs, pz, ez⟩ := perm_up (fun e : Ent => Value.ref e.t) pe
    obtain ⟨n, hn'⟩ := hn'
    have srt : (zs.map (·.k)).Pairwise (fun x y => HT.lexLt y x = false) := by
      have h1' := h1
      rw [← ez] at h1'
      have h1'' := List.pairwise_map.mp h1'
      rw [List.pairwise_map]
      refine List.Pairwise.imp_of_mem (fun {x y} hx hy hxy => ?_) h1''
      have ex := entK_is (ent_of I (he x (pz.mem_iff.mp hx)))
      have ey := entK_is (ent_of I (he y (pz.mem_iff.mp hy)))
      have hxy : HT.lexLt (entK s.heap (.ref y.t)) (entK s.heap (.ref x.t)) = false := hxy
      rw [ex, ey] at hxy
      exact hxy
    have nd : (zs.map (·.k)).Nodup := (pz.map (·.k)).nodup_iff.mpr hn
    refine ⟨.ref d, upd H d (.lst (zs.map fun e => V.ref e.t)), I.laid (t' := s.toks) kp hd ⟨?_, out, n, ?_, hn'⟩, rfl, q zs d pz (strict_of srt nd) (I.hok.fresh hd)⟩
    · rw [List.length_map, pz.length_eq]
      rw [List.length_map] at hz
      exact hz
    · rw [← ez]
      exact vals_refsB (fun e : Ent => e.t) zs
/-- sorted(d), d a dict whose keys are tuples of integers: the keys themselves, in order -/
def rSortedTD : List V → Hp → VK → Prop := fun vs H Q => ∃ (a : Addr) (kvs : List (List L2.Key × V)) (ks : List (List Int)), vs = [.ref a] ∧ H a = some (.dT kvs) ∧ kvs.map (·.1) = ks.map (·.map Sum.inl) ∧
  ∀ (p : Addr) (qs : List (Addr × List Int)), (qs.map (·.2)).Perm ks → (qs.map (·.2)).Pairwise (fun x y => HT.lexLt x y = true) → (∀ z ∈ qs, H z.1 = some (.tup (z.2.map V.int))) → H p = none → Q (.ref p) (upd H p (.lst (qs.map fun z => V.ref z.1)))
theorem kv_ints (ns : List Int) : (ns.map (Sum.inl : Int → L2.Key)).map kV = ns.map V.int := by
  rw [List.map_map]
  rfl
theorem cr_sortedTD (hcalm : X.calm = true) (hu : X.A.units + 64 < cLine) : CallR X (.builtin "sorted") rSortedTD := by
  intro pins s σ H xs us Q I r h
  obtain ⟨a, kvs, ks, rfl, ha, hks, q⟩ := h
  obtain ⟨u, eu, rx⟩ := vals1 r
  subst eu
  cases rx
  obtain ⟨z, lo, xs', rel, o, es, ep, ho, hx, hdat, hes, hn⟩ := (show ObjOk X.prog X.w H s.heap a (.dT kvs) from I.hok a _ ha)
  have l1 : kvs.length = xs'.length := Paired.length rel
  have l2 : es.size = xs'.length := by
    have e := congrArg List.length hes
    rw [Array.length_toList, List.length_map] at e
    exact e
  have l3 : kvs.length = ks.length := by
    have e := congrArg List.length hks
    rw [List.length_map, List.length_map] at e
    exact e
  have hr : DT.Raw s.heap a es ep := ⟨o, ho, hx, hdat⟩
  have at_ : ∀ (j : Nat) (e : Addr × List Int), ((xs'.map (·.2.1)).zip ks)[j]? = some e → H e.1 = some (.tup (e.2.map V.int)) := by
    intro j e hj
    obtain ⟨h1, h2⟩ := List.getElem?_zip_eq_some.mp hj
    rw [List.getElem?_map] at h1
    obtain ⟨x, hx1, hx2⟩ := Option.map_eq_some_iff.mp h1
    have hjl : j < kvs.length := by
      have := (List.getElem?_eq_some_iff.mp hx1).1
      omega
    obtain ⟨b, hb, r1, r2, r3⟩ := L2.paired_get rel (List.getElem?_eq_getElem hjl)
    rw [hx1] at hb
    cases hb
    have hk : (kvs.map (·.1))[j]? = some kvs[j].1 := by rw [List.getElem?_map, List.getElem?_eq_getElem hjl]; rfl
    rw [hks, List.getElem?_map, h2] at hk
    have hk : e.2.map Sum.inl = kvs[j].1 := Option.some.inj hk
    rw [← hx2, r2, ← hk, kv_ints]
  refine Calls.call_function_entry PyProof.Rows.kind_sorted PyProof.Rows.plain_sorted PyProof.Rows.entry_sorted (PyProof.Rows.args_sorted1 _) ?_
  unfold Builtin.«sorted»
  refine wpAny_bind (m := checkCount "sorted" 1 1 _) (wpAny_pure ?_)
  refine wpAny_bind (PySem.W.kdu_collect (A := X.A.in1) (rawSrc (es := es) (ep := ep) lo) (I.ok.hd hcalm) hr (by rw [l2, ← l1]; exact z) fun h' tk acc hk hacc => ?_)
  have hal : acc.toList.length = es.size := by rw [Array.length_toList, hacc.1]
  have hae : acc.toList = ((xs'.map (·.2.1)).zip ks).map fun e => Value.ref e.1 := by
    refine List.ext_getElem? fun j => ?_
    by_cases hj : j < acc.toList.length
    · have hj2 : j < xs'.length := by omega
      obtain ⟨en, he, hv⟩ := hacc.2 j acc.toList[j] (by rw [← Array.getElem?_toList]; exact List.getElem?_eq_getElem hj)
      rw [← Array.getElem?_toList, hes, List.getElem?_map, List.getElem?_eq_getElem hj2] at he
      have he : entryOfKey (tupleKind (mixKind X.prog X.w)) xs'[j] = en := Option.some.inj he
      rw [List.getElem?_eq_getElem hj, hv, ← he, List.getElem?_map]
      have hz : ((xs'.map (·.2.1)).zip ks)[j]? = some (xs'[j].2.1, ks[j]'(by omega)) := by
        rw [List.getElem?_zip_eq_some]
        exact ⟨by rw [List.getElem?_map, List.getElem?_eq_getElem hj2]; rfl, List.getElem?_eq_getElem (by omega)⟩
      rw [hz]
      rfl
    · rw [List.getElem?_eq_none (by omega), List.getElem?_eq_none]
      rw [List.length_map, List.length_zip, List.length_map]
      omega
  have I1 : L2.Inv X pins σ H { s with heap := h', toks := tk } := I.kept hk
  refine wpAny_bind (wpAny_newList ?_ (by rw [hal, l2, ← l1]; exact z))
  have hoL : (h'.push (seqObj "list" acc.toList.toArray 0)).get? h'.objs.size = some (seqObj "list" acc.toList.toArray 0) := Heap.get?_push_size _ rfl
  have hkeep : ∀ b o, h'.get? b = some o → b ≠ h'.objs.size ∧ (h'.push (seqObj "list" acc.toList.toArray 0)).get? b = some o := fun b o e => ⟨Nat.ne_of_lt (Heap.lt_size e), Heap.get?_push_of_some _ e⟩
  show wpAny _ _ _ _ _ { s with heap := h'.push (seqObj "list" acc.toList.toArray 0), toks := tk }
  have tis : ∀ v ∈ acc.toList, TiV s.heap v (tiK s.heap v) := fun v hv => by
    rw [hae] at hv
    obtain ⟨e, hm, rfl⟩ := List.mem_map.mp hv
    obtain ⟨j, hj⟩ := List.mem_iff_getElem?.mp hm
    have x : TiV s.heap (.ref e.1) e.2 := ⟨e.1, rfl, ti_of I (at_ j e hj)⟩
    rw [tiK_is x]
    exact x
  refine wpAny_bind (wpAny_holding (wpAny_call_entry PyProof.Rows.slot_list_sort ⟨_, hoL, rfl⟩ PyProof.Rows.entry_list_sort
    (SrtO.list_sort_ord (s := { s with heap := h'.push (seqObj "list" acc.toList.toArray 0), toks := tk }) (swo_key (tiK s.heap)) hoL (by rw [hal, l2, ← l1]; exact z) (fun h2 => ?_) fun out hs hb => ⟨_, rfl, ?_⟩) (PyProof.Rows.args_list_sort _)))
  · refine tis_sortable (by
      show X.A.units + 1 + 1 + 1 < cLine
      omega) (by omega) (fun v hv => IsTI.of_keeps (tis v hv) fun b o e _ => (hkeep b o (hk b o e)).2) fun o e => ?_
    have e' : some o = some (seqObj "list" acc.toList.toArray 0) := e.symm.trans hoL
    cases e'
    intro c
    exact absurd (Value.type.inj c) (by decide)
  · have pe := hb.perm
    rw [hae] at pe
    obtain ⟨zs, pz, ez⟩ := perm_up (fun e : Addr × List Int => Value.ref e.1) pe
    obtain ⟨e', he'⟩ := PyProof.Rows.sortedHeap_at (vs := acc.toList) (out := out.toArray) hoL
    have hzk : ∀ e ∈ zs, H e.1 = some (.tup (e.2.map V.int)) := fun e hm => by
      obtain ⟨j, hj⟩ := List.mem_iff_getElem?.mp (pz.mem_iff.mp hm)
      exact at_ j e hj
    have hks2 : ((xs'.map (·.2.1)).zip ks).map (·.2) = ks := List.map_snd_zip (by rw [List.length_map]; omega)
    have pks : (zs.map (·.2)).Perm ks := by
      have q := pz.map (·.2)
      rw [hks2] at q
      exact q
    have nd : ks.Nodup := by
      have e1 : xs'.map (·.1) = ks.map (·.map Sum.inl) := by
        rw [← hks]
        clear hn hes l1 l2 l3 at_ hae hal hacc tis pe pz hks2 hks ha z
        induction rel with
        | nil => rfl
        | cons r t ih =>
          rw [List.map_cons, List.map_cons, ih, r.1]
      rw [e1] at hn
      exact List.Pairwise.of_map _ (fun a b h e => h (congrArg _ e)) hn
    have srt : (zs.map (·.2)).Pairwise (fun x y => HT.lexLt y x = false) := by
      have h1' := hs
      rw [← ez] at h1'
      have h1'' := List.pairwise_map.mp h1'
      rw [List.pairwise_map]
      refine List.Pairwise.imp_of_mem (fun {x y} hx hy hxy => ?_) h1''
      have ex := tiK_is (h := s.heap) (v := .ref x.1) ⟨x.1, rfl, ti_of I (hzk x hx)⟩
      have ey := tiK_is (h := s.heap) (v := .ref y.1) ⟨y.1, rfl, ti_of I (hzk y hy)⟩
      have hxy : HT.lexLt (tiK s.heap (.ref y.1)) (tiK s.heap (.ref x.1)) = false := hxy
      rw [ex, ey] at hxy
      exact hxy
    have hn0 : H h'.objs.size = none := I1.hok.fresh (Nat.le_refl _)
    refine wpAny_pure ⟨_, rfl, .ref h'.objs.size, upd H h'.objs.size (.lst (zs.map fun z => V.ref z.1)), I1.laid (t' := tk) (fun b u e => ?_) (Nat.le_refl _) ⟨?_, out, e', ?_, he'⟩, rfl, q h'.objs.size zs pks (strict_of srt (pks.nodup_iff.mpr nd)) hzk hn0⟩
    · exact (PyProof.Rows.sortedHeap_old (hkeep b u e).1 (Heap.lt_size (hkeep b u e).2)).trans (hkeep b u e).2
    · have e1 := pz.length_eq
      rw [List.length_map, e1, List.length_zip, List.length_map]
      omega
    · rw [← ez]
      exact vals_refsB (fun e : Addr × List Int => e.1) zs
end

local macro_rules | `(tactic| walk_at "rd1") => `(tactic| first
  | (with_reducible refine r_sl ?_)
  | (with_reducible refine r_part ?_)
  | (with_reducible refine r_some ?_)
  | (with_reducible refine r_nopart ?_)
  | (with_reducible refine r_rng2 ?_)
  | (with_reducible refine r_rng3 ?_)
  | (with_reducible refine r_itL ?_)
  | (with_reducible refine r_itT ?_)
  | (with_reducible refine r_lcT ?_)
  | (with_reducible refine r_lcL ?_)
  | (with_reducible refine r_lc0 ?_))
local macro_rules | `(tactic| walk_at "ri1") => `(tactic| first
  | (with_reducible refine r_sl ?_)
  | (with_reducible refine r_part ?_)
  | (with_reducible refine r_some ?_)
  | (with_reducible refine r_nopart ?_)
  | (with_reducible refine r_rng2 ?_)
  | (with_reducible refine r_rng3 ?_)
  | (with_reducible refine r_itL ?_)
  | (with_reducible refine r_itT ?_)
  | (with_reducible refine r_lcT ?_)
  | (with_reducible refine r_lcL ?_)
  | (with_reducible refine r_lc0 ?_))

local macro_rules | `(tactic| walk_at "rd1") => `(tactic| first
  | (with_reducible refine r_callS ?_)
  | (with_reducible refine r_methS ?_)
  | (with_reducible refine r_raz ?_)
  | (with_reducible refine r_ost ?_)
  | (with_reducible refine r_xf ?_))
local macro_rules | `(tactic| walk_at "ri1") => `(tactic| first
  | (with_reducible refine r_callS ?_)
  | (with_reducible refine r_methS ?_)
  | (with_reducible refine r_raz ?_)
  | (with_reducible refine r_ost ?_)
  | (with_reducible refine r_xf ?_))
local macro_rules | `(tactic| walk_at "rh1") => `(tactic| first
  | (with_reducible refine r_callS ?_)
  | (with_reducible refine r_methS ?_)
  | (with_reducible refine r_raz ?_)
  | (with_reducible refine r_ost ?_)
  | (with_reducible refine r_xf ?_))

/-! ### nested values, and where they stand -/
theorem hu65 {A : Around} {k : Nat} (hr : Room k A) : A.units + 65 < cLine := by
  have := hr.un
  omega
theorem ps_never {X : Cx} {st : Stmt} : PS X st (fun _ _ _ => False) := ⟨fun _ _ _ _ _ _ h => h.elim⟩
inductive Vl where
  | lf (k : Str) (r : List PyData)
  | ls (xs : List Vl)
  | mp (es : List (List Int × Vl))
def kd (k : List Int) : PyData := .tuple (k.map PyData.int)
mutual
def Vl.dat : Vl → PyData
  | .lf k r => .tuple (.str k :: r)
  | .ls xs => .tuple [.str "list", .tuple (datL xs)]
  | .mp es => .tuple [.str "map", .tuple (datM es)]
def datL : List Vl → List PyData
  | [] => []
  | x :: xs => x.dat :: datL xs
def datM : List (List Int × Vl) → List PyData
  | [] => []
  | (k, v) :: es => .tuple [kd k, v.dat] :: datM es
end
/-- leaves -/
inductive Lf : Str → List PyData → Prop
  | null : Lf "null" []
  | truth (b : Bool) : Lf "truth" [.bool b]
  | number (m e : Int) : Lf "number" [.int m, .int e]
  | bytes (os : List Int) (h : os.length ≤ 300) : Lf "bytes" [kd os]
  | text (ps : List Int) (h : ps.length ≤ 200) : Lf "text" [kd ps]
mutual
def Vl.ok : Nat → Vl → Prop
  | _, .lf k r => Lf k r
  | 0, .ls _ => False
  | n + 1, .ls xs => xs.length ≤ 49 ∧ vokL n xs
  | 0, .mp _ => False
  | n + 1, .mp es => es.length ≤ 49 ∧ (es.map (·.1)).Pairwise (fun x y => HT.lexLt x y = true) ∧ (∀ e ∈ es, e.1.length ≤ 200) ∧ vokM n es
def vokL : Nat → List Vl → Prop
  | _, [] => True
  | n, x :: xs => x.ok n ∧ vokL n xs
def vokM : Nat → List (List Int × Vl) → Prop
  | _, [] => True
  | n, (_, v) :: es => v.ok n ∧ vokM n es
end
theorem vokL_app : ∀ {n : Nat} {xs ys : List Vl}, vokL n xs → vokL n ys → vokL n (xs ++ ys)
  | _, [], _, _, h => h
  | _, x :: xs, _, h1, h2 => ⟨h1.1, vokL_app h1.2 h2⟩
theorem vokL_mem : ∀ {n : Nat} {xs : List Vl}, vokL n xs → ∀ x ∈ xs, x.ok n
  | _, [], _, x, h => absurd h (by simp)
  | _, y :: ys, h, x, hx => by
    rcases List.mem_cons.mp hx with e | e
    · rw [e]
      exact h.1
    · exact vokL_mem h.2 x e
theorem vokM_mem : ∀ {n : Nat} {es : List (List Int × Vl)}, vokM n es → ∀ e ∈ es, e.2.ok n
  | _, [], _, x, h => absurd h (by simp)
  | _, (k, v) :: ys, h, x, hx => by
    rcases List.mem_cons.mp hx with e | e
    · rw [e]
      exact h.1
    · exact vokM_mem h.2 x e
theorem vokM_of : ∀ {n : Nat} {es : List (List Int × Vl)}, (∀ e ∈ es, e.2.ok n) → vokM n es
  | _, [], _ => trivial
  | _, (k, v) :: ys, h => ⟨h _ (List.mem_cons_self ..), vokM_of fun e he => h e (List.mem_cons_of_mem _ he)⟩
theorem datL_app : ∀ (xs ys : List Vl), datL (xs ++ ys) = datL xs ++ datL ys
  | [], _ => rfl
  | x :: xs, ys => congrArg (x.dat :: ·) (datL_app xs ys)
theorem datM_map : ∀ (es : List (List Int × Vl)), datM es = es.map fun e => .tuple [kd e.1, e.2.dat]
  | [] => rfl
  | (k, v) :: es => congrArg (PyData.tuple [kd k, v.dat] :: ·) (datM_map es)
theorem datL_map : ∀ (xs : List Vl), datL xs = xs.map Vl.dat
  | [] => rfl
  | x :: xs => congrArg (x.dat :: ·) (datL_map xs)
mutual
inductive Tp (H : Hp) : V → PyData → Prop
  | non : Tp H .non .none
  | bl (b : Bool) : Tp H (.bl b) (.bool b)
  | int (i : Int) : Tp H (.int i) (.int i)
  | str (x : Str) : Tp H (.str x) (.str x)
  | tup {a : Addr} {xs : List V} {ds : List PyData} : H a = some (.tup xs) → TpAll H xs ds → Tp H (.ref a) (.tuple ds)
inductive TpAll (H : Hp) : List V → List PyData → Prop
  | nil : TpAll H [] []
  | cons {v : V} {vs : List V} {d : PyData} {ds : List PyData} : Tp H v d → TpAll H vs ds → TpAll H (v :: vs) (d :: ds)
end
/-- tuples stay -/
def Tk (H H' : Hp) : Prop := ∀ a xs, H a = some (.tup xs) → H' a = some (.tup xs)
theorem Tk.refl (H : Hp) : Tk H H := fun _ _ h => h
theorem Tk.trans {H H1 H2 : Hp} (a : Tk H H1) (b : Tk H1 H2) : Tk H H2 := fun c xs h => b c xs (a c xs h)
theorem Same.tk {H H' : Hp} (s : Same H H') : Tk H H' := fun a xs h => s a _ h
theorem tk_put {H : Hp} {a : Addr} {xs : List V} {o : HO} (h : H a = some (.lst xs)) : Tk H (upd H a o) := fun b ys hb => by
  rw [upd_ne (fun e => by rw [e, h] at hb; cases hb)]
  exact hb
theorem tk_but {H H' : Hp} {a : Addr} {xs : List V} (h : H a = some (.lst xs)) (k : ∀ b o, b ≠ a → H b = some o → H' b = some o) : Tk H H' := fun b ys hb => k b _ (fun e => by rw [e, h] at hb; cases hb) hb
theorem keep_tk {K : Frg} {S : SC} {H H' : Hp} (L : LS K S H) (k : Keep S H H') : Tk H H' := by
  obtain ⟨k1, l, f, e⟩ := L.st
  exact tk_but e fun b o n h => k b o n h
mutual
theorem Tp.tk {H H' : Hp} (k : Tk H H') : ∀ (d : PyData) (v : V), Tp H v d → Tp H' v d
  | .none, _, h => by cases h; exact .non
  | .bool b, _, h => by cases h; exact .bl b
  | .int i, _, h => by cases h; exact .int i
  | .str x, _, h => by cases h; exact .str x
  | .tuple ds, _, h => by
    cases h with
    | tup h1 h2 => exact .tup (k _ _ h1) (TpAll.tk k ds _ h2)
  | .list ds, _, h => by cases h
  | .dict ds, _, h => by cases h
theorem TpAll.tk {H H' : Hp} (k : Tk H H') : ∀ (ds : List PyData) (vs : List V), TpAll H vs ds → TpAll H' vs ds
  | [], _, h => by cases h; exact .nil
  | d :: ds, _, h => by
    cases h with
    | cons h1 h2 => exact .cons (Tp.tk k d _ h1) (TpAll.tk k ds _ h2)
end
mutual
theorem Tp.dp {K : Frg} {H : Hp} : ∀ (d : PyData) (v : V), Tp H v d → Dp K H v d
  | .none, _, h => by cases h; exact .non
  | .bool b, _, h => by cases h; exact .bl b
  | .int i, _, h => by cases h; exact .int i
  | .str x, _, h => by cases h; exact .str x
  | .tuple ds, _, h => by
    cases h with
    | tup h1 h2 => exact .tup (SqT.of h1) (TpAll.dp ds _ h2)
  | .list ds, _, h => by cases h
  | .dict ds, _, h => by cases h
theorem TpAll.dp {K : Frg} {H : Hp} : ∀ (ds : List PyData) (vs : List V), TpAll H vs ds → DpAll K H vs ds
  | [], _, h => by cases h; exact .nil
  | d :: ds, _, h => by
    cases h with
    | cons h1 h2 => exact .cons (Tp.dp d _ h1) (TpAll.dp ds _ h2)
end
theorem tp_tup {H : Hp} {v : V} {ds : List PyData} (h : Tp H v (.tuple ds)) : ∃ a xs, v = .ref a ∧ H a = some (.tup xs) ∧ TpAll H xs ds := by
  cases h with
  | tup h1 h2 => exact ⟨_, _, rfl, h1, h2⟩
theorem tp_ints {H : Hp} : ∀ (ns : List Int), TpAll H (ns.map V.int) (ns.map PyData.int)
  | [] => .nil
  | n :: ns => .cons (.int n) (tp_ints ns)
theorem tp_intsB {H : Hp} : ∀ {xs : List V} (ns : List Int), TpAll H xs (ns.map PyData.int) → xs = ns.map V.int
  | _, [], h => by
    cases h
    rfl
  | _, n :: ns, h => by
    cases h with
    | cons h t =>
      cases h
      rw [tp_intsB ns t]
      rfl
theorem tp_kd {H : Hp} {a : Addr} {ns : List Int} (h : H a = some (.tup (ns.map V.int))) : Tp H (.ref a) (kd ns) := .tup h (tp_ints ns)
theorem tp_kdB {H : Hp} {v : V} {ns : List Int} (h : Tp H v (kd ns)) : ∃ a, v = .ref a ∧ H a = some (.tup (ns.map V.int)) := by
  obtain ⟨a, xs, rfl, h1, h2⟩ := tp_tup h
  rw [tp_intsB ns h2] at h1
  exact ⟨a, rfl, h1⟩
theorem tpAll_app {H : Hp} : ∀ {xs ys : List V} {ds es : List PyData}, TpAll H xs ds → TpAll H ys es → TpAll H (xs ++ ys) (ds ++ es)
  | _, _, _, _, .nil, h => h
  | _, _, _, _, .cons h1 h2, h => .cons h1 (tpAll_app h2 h)
theorem tpAll_len {H : Hp} : ∀ {xs : List V} {ds : List PyData}, TpAll H xs ds → xs.length = ds.length
  | _, _, .nil => rfl
  | _, _, .cons _ h => congrArg (· + 1) (tpAll_len h)
theorem tpAll_get {H : Hp} : ∀ {xs : List V} {ds : List PyData} {i : Nat} {x : V}, TpAll H xs ds → xs[i]? = some x → ∃ d, ds[i]? = some d ∧ Tp H x d
  | [], _, _, _, _, e => by simp at e
  | x :: xs, _, 0, _, .cons h t, e => by
    cases (show some x = some _ from e)
    exact ⟨_, rfl, h⟩
  | x :: xs, _, i + 1, _, .cons h t, e => by
    obtain ⟨d, e1, h1⟩ := tpAll_get (i := i) t (by simpa using e)
    exact ⟨d, by simpa using e1, h1⟩
theorem lay_kds : ∀ (ks : List (List Int)), PyData.canLayAll0 (ks.map kd) = true
  | [] => rfl
  | k :: ks => by
    show (PyData.canLay0 (kd k) && PyData.canLayAll0 (ks.map kd)) = true
    rw [lay_kds ks, show PyData.canLay0 (kd k) = true from lay_kd k]
    rfl
theorem depth_kd1 (k : List Int) : (kd k).depth ≤ 1 := depth_kd k
theorem depth_kds : ∀ (ks : List (List Int)), PyData.depthAll (ks.map kd) ≤ 1
  | [] => by simp [PyData.depthAll]
  | k :: ks => by
    have e := depth_kds ks
    have e2 := depth_kd k
    show max (PyData.depth (kd k)) (PyData.depthAll (ks.map kd)) ≤ 1
    exact Nat.max_le.mpr ⟨e2, e⟩
theorem shaped_kd (k : List Int) : SeqAt.shaped (kd k) = true := by
  unfold SeqAt.shaped
  rw [show PyData.canLay0 (kd k) = true from lay_kd k, decide_eq_true (Nat.le_trans (depth_kd1 k) (by decide))]
  rfl
theorem shaped_kds (ks : List (List Int)) : SeqAt.shaped (.list (ks.map kd)) = true := by
  unfold SeqAt.shaped
  rw [show PyData.canLay0 (.list (ks.map kd)) = true from lay_kds ks, decide_eq_true]
  · rfl
  · have e := depth_kds ks
    show PyData.depthAll (ks.map kd) + 1 ≤ 64
    omega
theorem eqv_kds (k : List Int) : ∀ (ks : List (List Int)), ((ks.map kd).any fun z => PyData.eqv z (kd k)) = decide (k ∈ ks)
  | [] => rfl
  | x :: ks => by
    show (PyData.eqv (kd x) (kd k) || ((ks.map kd).any fun z => PyData.eqv z (kd k))) = _
    rw [eqv_kds k ks, show PyData.eqv (kd x) (kd k) = decide (x = k) from eqv_kd x k]
    by_cases e : x = k
    · rw [e]
      simp
    · rw [decide_eq_false e]
      have : decide (k ∈ x :: ks) = decide (k ∈ ks) := decide_eq_decide.mpr ⟨fun q => by
        rcases List.mem_cons.mp q with q | q
        · exact absurd q.symm e
        · exact q, fun q => List.mem_cons_of_mem _ q⟩
      rw [this]
      rfl

/-! ### events of a value -/
inductive Ev where
  | op (m : Bool)
  | ky (k : List Int)
  | lf (k : Str) (r : List PyData)
  | cl
def kindOf_ (m : Bool) : Str := if m then "map" else "list"
def Ev.dat : Ev → PyData
  | .op m => .tuple [.str "open", .str (kindOf_ m)]
  | .ky k => .tuple [.str "key", kd k]
  | .lf k r => .tuple [.str "leaf", .tuple (.str k :: r)]
  | .cl => .tuple [.str "close"]
mutual
def Vl.evs : Vl → List Ev
  | .lf k r => [.lf k r]
  | .ls xs => .op false :: (evsL xs ++ [.cl])
  | .mp es => .op true :: (evsM es ++ [.cl])
def evsL : List Vl → List Ev
  | [] => []
  | x :: xs => x.evs ++ evsL xs
def evsM : List (List Int × Vl) → List Ev
  | [] => []
  | (k, v) :: es => .ky k :: (v.evs ++ evsM es)
end
theorem evsL_app : ∀ (xs ys : List Vl), evsL (xs ++ ys) = evsL xs ++ evsL ys
  | [], _ => rfl
  | x :: xs, ys => by
    show x.evs ++ evsL (xs ++ ys) = x.evs ++ evsL xs ++ evsL ys
    rw [evsL_app xs ys, List.append_assoc]
theorem evsM_app : ∀ (xs ys : List (List Int × Vl)), evsM (xs ++ ys) = evsM xs ++ evsM ys
  | [], _ => rfl
  | (k, v) :: xs, ys => by
    show Ev.ky k :: (v.evs ++ evsM (xs ++ ys)) = Ev.ky k :: (v.evs ++ evsM xs) ++ evsM ys
    rw [evsM_app xs ys, List.cons_append, List.append_assoc]
theorem evsL_one (x : Vl) : evsL [x] = x.evs := by
  show x.evs ++ [] = x.evs
  rw [List.append_nil]
theorem evsM_one (k : List Int) (x : Vl) : evsM [(k, x)] = .ky k :: x.evs := by
  show Ev.ky k :: (x.evs ++ []) = _
  rw [List.append_nil]
theorem evsL_sub {xs : List Vl} {i : Nat} {x : Vl} (h : xs[i]? = some x) : (evsL (xs.take i)).length + x.evs.length ≤ (evsL xs).length := by
  have e : xs = xs.take i ++ (x :: xs.drop (i + 1)) := by
    obtain ⟨hi, e⟩ := List.getElem?_eq_some_iff.mp h
    rw [← e, List.getElem_cons_drop, List.take_append_drop]
  have q := congrArg (fun l => (evsL l).length) e
  have q : (evsL xs).length = (evsL (xs.take i ++ (x :: xs.drop (i + 1)))).length := q
  rw [evsL_app, List.length_append] at q
  have q2 : (evsL (x :: xs.drop (i + 1))).length = x.evs.length + (evsL (xs.drop (i + 1))).length := List.length_append
  omega
theorem evsM_sub {xs : List (List Int × Vl)} {i : Nat} {k : List Int} {x : Vl} (h : xs[i]? = some (k, x)) : (evsM (xs.take i)).length + 1 + x.evs.length ≤ (evsM xs).length := by
  have e : xs = xs.take i ++ ((k, x) :: xs.drop (i + 1)) := by
    obtain ⟨hi, e⟩ := List.getElem?_eq_some_iff.mp h
    rw [← e, List.getElem_cons_drop, List.take_append_drop]
  have q := congrArg (fun l => (evsM l).length) e
  have q : (evsM xs).length = (evsM (xs.take i ++ ((k, x) :: xs.drop (i + 1)))).length := q
  rw [evsM_app, List.length_append] at q
  have q2 : (evsM ((k, x) :: xs.drop (i + 1))).length = x.evs.length + (evsM (xs.drop (i + 1))).length + 1 := congrArg (· + 1) List.length_append
  omega
def evD (es : List Ev) : List PyData := es.map Ev.dat
theorem evD_app (a b : List Ev) : evD (a ++ b) = evD a ++ evD b := List.map_append

theorem lf_kind {k : Str} {r : List PyData} (h : Lf k r) : k ≠ "list" ∧ k ≠ "map" := by
  cases h <;> exact ⟨by decide +kernel, by decide +kernel⟩
/-- all but the list at p stays -/
def Bt (p : Addr) (H H' : Hp) : Prop := ∀ b o, b ≠ p → H b = some o → H' b = some o
theorem Bt.trans {p : Addr} {H H1 H2 : Hp} (x : Bt p H H1) (y : Bt p H1 H2) : Bt p H H2 := fun b o n h => y b o n (x b o n h)
theorem Bt.of {p : Addr} {H H' : Hp} (s : Same H H') : Bt p H H' := fun b o _ h => s b o h
theorem Bt.put {p : Addr} {H : Hp} (o : HO) : Bt p H (upd H p o) := fun b u n h => (upd_ne n).trans h
theorem Bt.tk {p : Addr} {H H' : Hp} {xs : List V} (h : H p = some (.lst xs)) (k : Bt p H H') : Tk H H' := tk_but h k
theorem small16M {n : Nat} (h : n ≤ 16000100) : n < sizeLine := Nat.lt_of_le_of_lt h (by decide)
theorem cps_ne {a b : Str} (h : ¬ a = b) : decide (a = b) = false := decide_eq_false h
/-- what stands at a list, at a map -/
theorem tp_ls {H : Hp} {v : V} {xs : List Vl} (h : Tp H v (Vl.ls xs).dat) : ∃ a b ws, v = .ref a ∧ H a = some (.tup [.str "list", .ref b]) ∧ H b = some (.tup ws) ∧ TpAll H ws (datL xs) := by
  obtain ⟨a, vs, rfl, h1, h2⟩ := tp_tup (show Tp H v (.tuple [.str "list", .tuple (datL xs)]) from h)
  cases h2 with
  | cons x1 x2 =>
    cases x1
    cases x2 with
    | cons y1 y2 =>
      cases y2
      obtain ⟨b, ws, rfl, g1, g2⟩ := tp_tup y1
      exact ⟨a, b, ws, rfl, h1, g1, g2⟩
theorem tp_mp {H : Hp} {v : V} {es : List (List Int × Vl)} (h : Tp H v (Vl.mp es).dat) : ∃ a b ws, v = .ref a ∧ H a = some (.tup [.str "map", .ref b]) ∧ H b = some (.tup ws) ∧ TpAll H ws (datM es) := by
  obtain ⟨a, vs, rfl, h1, h2⟩ := tp_tup (show Tp H v (.tuple [.str "map", .tuple (datM es)]) from h)
  cases h2 with
  | cons x1 x2 =>
    cases x1
    cases x2 with
    | cons y1 y2 =>
      cases y2
      obtain ⟨b, ws, rfl, g1, g2⟩ := tp_tup y1
      exact ⟨a, b, ws, rfl, h1, g1, g2⟩
theorem tp_en {H : Hp} {v : V} {k : List Int} {d : PyData} (h : Tp H v (.tuple [kd k, d])) : ∃ t q u, v = .ref t ∧ H t = some (.tup [.ref q, u]) ∧ H q = some (.tup (k.map V.int)) ∧ Tp H u d := by
  obtain ⟨a, vs, rfl, h1, h2⟩ := tp_tup h
  cases h2 with
  | cons x1 x2 =>
    cases x2 with
    | cons y1 y2 =>
      cases y2
      obtain ⟨q, rfl, hq⟩ := tp_kdB x1
      exact ⟨a, q, _, rfl, h1, hq, y1⟩
theorem tp_lf {H : Hp} {v : V} {k : Str} {r : List PyData} (h : Tp H v (Vl.lf k r).dat) : ∃ a ws, v = .ref a ∧ H a = some (.tup (.str k :: ws)) ∧ TpAll H ws r := by
  obtain ⟨a, vs, rfl, h1, h2⟩ := tp_tup (show Tp H v (.tuple (.str k :: r)) from h)
  cases h2 with
  | cons x1 x2 =>
    cases x1
    exact ⟨a, _, rfl, h1, x2⟩
theorem datL_get {xs : List Vl} {i : Nat} {d : PyData} (h : (datL xs)[i]? = some d) : ∃ x, xs[i]? = some x ∧ d = x.dat := by
  rw [datL_map, List.getElem?_map] at h
  obtain ⟨x, h1, h2⟩ := Option.map_eq_some_iff.mp h
  exact ⟨x, h1, h2.symm⟩
theorem datM_get {xs : List (List Int × Vl)} {i : Nat} {d : PyData} (h : (datM xs)[i]? = some d) : ∃ k x, xs[i]? = some (k, x) ∧ d = .tuple [kd k, x.dat] := by
  rw [datM_map, List.getElem?_map] at h
  obtain ⟨x, h1, h2⟩ := Option.map_eq_some_iff.mp h
  exact ⟨x.1, x.2, h1, h2.symm⟩
theorem take_one {α : Type} {l : List α} {i : Nat} {x : α} (h : l[i]? = some x) : l.take (i + 1) = l.take i ++ [x] := by
  rw [List.take_succ, h]
  rfl
theorem str_list : ¬ ("map" : Str) = "list" := by decide +kernel
theorem evsL_len {xs : List Vl} : (Vl.ls xs).evs.length = (evsL xs).length + 2 := by
  show (evsL xs ++ [Ev.cl]).length + 1 = _
  rw [List.length_append]
  rfl
theorem evsM_len {xs : List (List Int × Vl)} : (Vl.mp xs).evs.length = (evsM xs).length + 2 := by
  show (evsM xs ++ [Ev.cl]).length + 1 = _
  rw [List.length_append]
  rfl
theorem tp_ev2 {H : Hp} {T : Addr} {k : Str} {v : V} {d : PyData} (h : H T = some (.tup [.str k, v])) (hv : Tp H v d) : Tp H (.ref T) (.tuple [.str k, d]) := .tup h (.cons (.str _) (.cons hv .nil))
theorem tp_cl {H : Hp} {T : Addr} (h : H T = some (.tup [.str "close"])) : Tp H (.ref T) Ev.cl.dat := .tup h (.cons (.str _) .nil)
theorem evD_len (es : List Ev) : (evD es).length = es.length := List.length_map _

theorem r_din {σ : St} {H : Hp} {Q : VK} {td ty : TE} (h : ty σ H fun y H1 => td σ H1 fun x H2 => ∃ a o, x = .ref a ∧ DGet H2 a y o ∧ Q (.bl o.isSome) H2) : tDIn ty td σ H Q := h
theorem r_dput {σ : St} {H : Hp} {n b c : St → Hp → Prop} {r : VK} {td ty tv : TE} (h : tv σ H fun v H1 => td σ H1 fun x H2 => ty σ H2 fun y H3 => ∃ a H4, x = .ref a ∧ DPut H3 a y v H4 ∧ n σ H4) : sDPut td ty tv ⟨n, r, b, c⟩ σ H := h

/-! ### heaps, step by step: what one change leaves, what many leave -/
/-- a alone is changed, and it was no tuple -/
def Eb (a : Addr) (H H' : Hp) : Prop := (∀ b, b ≠ a → H' b = H b) ∧ ∀ xs, H a ≠ some (.tup xs)
/-- all but o stays, tuples stay wherever they are -/
def Ch (o : List Addr) (H H' : Hp) : Prop := ∀ x u, H x = some u → (x ∈ o → ∃ xs, u = .tup xs) → H' x = some u
section
variable {o o2 : List Addr} {H H1 H2 H' : Hp} {a x : Addr} {u : HO} {xs : List V}
theorem Eb.get (e : Eb a H H') (n : x ≠ a) (h : H x = some u) : H' x = some u := (e.1 x n).trans h
theorem Eb.upd {o : HO} (h : H a = some u) (n : ∀ xs, u ≠ .tup xs) : Eb a H (upd H a o) := ⟨fun b hb => upd_ne hb, fun xs e => by rw [h] at e; exact n xs (Option.some.inj e)⟩
theorem Ch.get (c : Ch o H H') (n : x ∉ o) (h : H x = some u) : H' x = some u := c x u h fun z => absurd z n
theorem Ch.tup (c : Ch o H H') (h : H x = some (.tup xs)) : H' x = some (.tup xs) := c x _ h fun _ => ⟨xs, rfl⟩
theorem Ch.tk (c : Ch o H H') : Tk H H' := fun _ _ h => c.tup h
theorem Eb.tk (e : Eb a H H') : Tk H H' := fun b xs h => (e.1 b fun q => by rw [q] at h; exact e.2 xs h).trans h
theorem Ch.refl : Ch o H H := fun _ _ h _ => h
theorem Ch.same (s : Same H1 H2) (c : Ch o H H1) : Ch o H H2 := fun x u h n => s _ _ (c x u h n)
theorem Ch.eb (e : Eb a H1 H2) (m : a ∈ o) (c : Ch o H H1) : Ch o H H2 := fun x u h n => by
  have h1 := c x u h n
  by_cases q : x = a
  · subst q
    obtain ⟨xs, rfl⟩ := n m
    exact absurd h1 (e.2 xs)
  · exact e.get q h1
theorem Ch.ebn (e : Eb a H1 H2) (m : H a = none) (c : Ch o H H1) : Ch o H H2 := fun x u h n => e.get (fun q => by rw [q, m] at h; cases h) (c x u h n)
theorem Ch.ch (c2 : Ch o2 H1 H2) (m : ∀ x ∈ o2, x ∈ o ∨ H x = none) (c : Ch o H H1) : Ch o H H2 := fun x u h n => c2 x u (c x u h n) fun z => by
  rcases m x z with q | q
  · exact n q
  · rw [h] at q
    cases q
theorem Ch.mono (c : Ch o H H') (m : ∀ x ∈ o, x ∈ o2) : Ch o2 H H' := fun x u h n => c x u h fun z => n (m x z)
theorem Ch.trans (c : Ch o H H1) (c2 : Ch o H1 H2) : Ch o H H2 := c2.ch (fun x hx => .inl hx) c
theorem Ch.seq {K : Frg} (c : Ch o H H') (n : x ∉ o) (h : SqL K H x xs) : SqL K H' x xs := by
  rcases h with (h | ⟨u, h⟩) | h
  · exact .inl (.inl (c.get n h))
  · exact .inl (.inr ⟨u, c.get n h⟩)
  · exact .inr h
theorem Same.get (s : Same H H') (h : H x = some u) : H' x = some u := s _ _ h
theorem nm_nil : x ∉ ([] : List Addr) := by simp
theorem nm_cons (h : x ≠ a) (t : x ∉ o) : x ∉ a :: o := by simp [h, t]
theorem nm_app (h : x ∉ o) (t : x ∉ o2) : x ∉ o ++ o2 := by simp [h, t]
theorem ms_nil {p : Addr → Prop} : ∀ x ∈ ([] : List Addr), p x := by simp
theorem ms_cons {p : Addr → Prop} (h : p a) (t : ∀ x ∈ o, p x) : ∀ x ∈ a :: o, p x := fun x hx => by
  rcases List.mem_cons.mp hx with e | e
  · rw [e]; exact h
  · exact t x e
theorem ms_app {p : Addr → Prop} (h : ∀ x ∈ o, p x) (t : ∀ x ∈ o2, p x) : ∀ x ∈ o ++ o2, p x := fun x hx => by
  rcases List.mem_append.mp hx with e | e
  · exact h x e
  · exact t x e
theorem ne_il {C dx : Addr} {fs : List (Str × V)} {b : Addr} (h1 : H a = some (.ins C dx fs)) (h2 : H b = some (.lst xs)) : a ≠ b := fun e => by
  rw [e, h2] at h1
  cases h1
theorem ne_id {C dx : Addr} {fs : List (Str × V)} {b : Addr} {kvs : List (List Key × V)} (h1 : H a = some (.ins C dx fs)) (h2 : H b = some (.dT kvs)) : a ≠ b := fun e => by
  rw [e, h2] at h1
  cases h1
theorem ne_ld {b : Addr} {kvs : List (List Key × V)} (h1 : H a = some (.lst xs)) (h2 : H b = some (.dT kvs)) : a ≠ b := fun e => by
  rw [e, h2] at h1
  cases h1
/-- what is new to a later heap was new before, or is one's own -/
theorem Ch.fresh (c : Ch o H H') (h : H' x = none) : x ∈ o ∨ H x = none := by
  by_cases m : x ∈ o
  · exact .inl m
  · cases e : H x with
    | none => exact .inr rfl
    | some u =>
      rw [c.get m e] at h
      cases h
end
section
variable {σ : St} {H : Hp} {n b c : St → Hp → Prop} {r : VK} {Q : VK} {K : Frg} {a C dx : Addr} {fs : List (Str × V)} {f : Str} {v : V}
theorem r_fsetE {R : Hp → Prop} {fs' : List (Str × V)} (h : H a = some (.ins C dx fs)) (cl : Cls K C) (na : NoAttr K C f) (hl : fs.length < 1000) (e : putF f v fs = fs') (q : ∀ H', H' a = some (.ins C dx fs') → Eb a H H' → R H') :
    ∃ a' C dx fs, V.ref a = .ref a' ∧ H a' = some (.ins C dx fs) ∧ Cls K C ∧ NoAttr K C f ∧ fs.length < 1000 ∧ R (upd H a' (.ins C dx (putF f v fs))) := r_fset h cl na hl e (q _ upd_same (Eb.upd h fun xs e => by cases e))
theorem r_appE {p : Addr} {xs : List V} {y : V} (h : H p = some (.lst xs)) (hl : xs.length < sizeLine) (q : ∀ H', H' p = some (.lst (xs ++ [y])) → Eb p H H' → Q .non H') : rAppend (.ref p) [y] H Q := r_app h hl (q _ upd_same (Eb.upd h fun xs e => by cases e))
theorem r_popE {p : Addr} {xs : List V} {y : V} (h : H p = some (.lst (xs ++ [y]))) (q : ∀ H', H' p = some (.lst xs) → Eb p H H' → Q y H') : rPop (.ref p) [] H Q := by
  refine ⟨p, _, y, rfl, rfl, h, ?_, ?_⟩
  · rw [List.length_append]
    show (xs ++ [y])[xs.length + 1 - 1]? = some y
    simp
  · exact q _ (by rw [upd_same, List.dropLast_concat]) (Eb.upd h fun xs e => by cases e)
theorem r_orT {ta tb : TE} (h : ta σ H fun x H1 => ∃ k, TruV K x H1 k ∧ if k = true then Q x H1 else tb σ H1 Q) : tOrT K ta tb σ H Q := h
theorem pe_alt {X : Cx} {e : Expr} {t u : TE} (h1 : PE X e t) (h2 : PE X e u) : PE X e (fun σ H Q => t σ H Q ∨ u σ H Q) := by
  refine ⟨fun pins s σ H Q I h => ?_⟩
  rcases h with h | h
  · exact h1.run pins s σ H Q I h
  · exact h2.run pins s σ H Q I h
end
/-! ### new objects by what is known of the heap behind them -/
section
variable {X : Cx} {es : List Expr} {t : TA} {pos : Pos}
theorem pa_mono (ha : PA X es t) : PA X es (fun σ H R => ∃ R0 : List V → Hp → Prop, t σ H R0 ∧ ∀ xs H1, R0 xs H1 → R xs H1) :=
  ⟨fun pos pins s σ H Q I ⟨R0, h, im⟩ => wpAny_mono (ha.run pos pins s σ H R0 I h) (fun us s' ⟨xs, H', I', r, q⟩ => ⟨xs, H', I', r, im _ _ q⟩) fun _ _ x => x⟩
def tLstE (t : TA) : TE := fun σ H Q => t σ H fun xs H1 => xs.length ≤ sizeLine ∧ ∀ p H2, H1 p = none → H2 p = some (.lst xs) → Same H1 H2 → Q (.ref p) H2
def tTupE (t : TA) : TE := fun σ H Q => t σ H fun xs H1 => xs.length ≤ sizeLine ∧ ∀ p H2, H1 p = none → H2 p = some (.tup xs) → Same H1 H2 → Q (.ref p) H2
def tDnwE : TE := fun _ H Q => ∀ p H2, H p = none → H2 p = some (.dT []) → Same H H2 → Q (.ref p) H2
theorem pe_lstE {p : Pos} (ha : PA X es t) : PE X (.List es p) (tLstE t) := ⟨fun pins s σ H Q I h => (pe_lst (pa_mono ha)).run pins s σ H Q I ⟨_, h, fun xs H1 q => ⟨q.1, fun p np => q.2 p _ np upd_same (same_upd np _)⟩⟩⟩
theorem pe_tupE {k : Nat} {p : Pos} (ha : PA X es t) : PE X (.Tuple es k p) (tTupE t) := ⟨fun pins s σ H Q I h => (pe_tup (pa_mono ha)).run pins s σ H Q I ⟨_, h, fun xs H1 q => ⟨q.1, fun p np => q.2 p _ np upd_same (same_upd np _)⟩⟩⟩
theorem pe_dnwE {pos : Pos} : PE X (.Dict [] [] pos) tDnwE := ⟨fun pins s σ H Q I h => pe_dnewT.run pins s σ H Q I fun p np => h p _ np upd_same (same_upd np _)⟩
def rListE (K : Frg) : List V → Hp → VK → Prop := fun xs H Q => ∃ p ys, xs = [.ref p] ∧ (SqL K H p ys ∨ SqT K H p ys) ∧ ∀ l H2, H l = none → H2 l = some (.lst ys) → Same H H2 → Q (.ref l) H2
def rTupleE (K : Frg) : List V → Hp → VK → Prop := fun xs H Q => ∃ p ys, xs = [.ref p] ∧ ((SqL K H p ys ∧ ∀ l H2, H l = none → H2 l = some (.tup ys) → Same H H2 → Q (.ref l) H2) ∨ (SqT K H p ys ∧ Q (.ref p) H))
theorem call_list_ofE : CallR X (.type "list") (rListE X.K) := fun pins s σ H xs us Q I r ⟨p, ys, e, o, q⟩ => call_list_of pins s σ H xs us Q I r ⟨p, ys, e, o, fun l nl => q l _ nl upd_same (same_upd nl _)⟩
theorem call_tuple_ofE : CallR X (.type "tuple") (rTupleE X.K) := fun pins s σ H xs us Q I r ⟨p, ys, e, o⟩ => call_tuple_of pins s σ H xs us Q I r ⟨p, ys, e, o.imp (fun q => ⟨q.1, fun l nl => q.2 l _ nl upd_same (same_upd nl _)⟩) id⟩
end
section
variable {σ : St} {H : Hp} {Q : VK} {K : Frg} {t : TA}
theorem r_lstE (h : t σ H fun xs H1 => xs.length ≤ sizeLine ∧ ∀ p H2, H1 p = none → H2 p = some (.lst xs) → Same H1 H2 → Q (.ref p) H2) : tLstE t σ H Q := h
theorem r_tupE (h : t σ H fun xs H1 => xs.length ≤ sizeLine ∧ ∀ p H2, H1 p = none → H2 p = some (.tup xs) → Same H1 H2 → Q (.ref p) H2) : tTupE t σ H Q := h
theorem r_dnwE (h : ∀ p H2, H p = none → H2 p = some (.dT []) → Same H H2 → Q (.ref p) H2) : tDnwE σ H Q := h
theorem Same.ne {H : Hp} {p x : Addr} {u : HO} (np : H p = none) (h : H x = some u) : x ≠ p := fun e => by rw [e, np] at h; cases h
/-- list(xs) of a list -/
theorem r_toL {p : Addr} {ys : List V} (hs : SqL K H p ys) (q : ∀ l H2, H l = none → H2 l = some (.lst ys) → Same H H2 → Q (.ref l) H2) : rListE K [.ref p] H Q := ⟨p, ys, rfl, .inl hs, q⟩
theorem r_toLt {p : Addr} {ys : List V} (hs : SqT K H p ys) (q : ∀ l H2, H l = none → H2 l = some (.lst ys) → Same H H2 → Q (.ref l) H2) : rListE K [.ref p] H Q := ⟨p, ys, rfl, .inr hs, q⟩
theorem r_toT {p : Addr} {ys : List V} (hs : SqL K H p ys) (q : ∀ l H2, H l = none → H2 l = some (.tup ys) → Same H H2 → Q (.ref l) H2) : rTupleE K [.ref p] H Q := ⟨p, ys, rfl, .inl ⟨hs, q⟩⟩
end
/-- an expression whose value is known, whatever is wished of it -/
theorem r_joinE {σ : St} {H : Hp} {Q : VK} {t : TE} (v : V) (h1 : ∀ R : VK, R v H → t σ H R) (h : Q v H) : t σ H Q := h1 Q h

/-! ### a try whose body raises nothing -/
section
variable {X : Cx} {body : List Stmt} {h₀ : ExceptHandler} {hs : List ExceptHandler} {t : TS} {pos : Pos}
theorem ps_tryN0 (hn : ∀ e s, ¬ X.xe e s) (hb : PSs X body t) : PS X (.Try body (h₀ :: hs) [] [] pos) t := ps_try_never (u := tNext) hn hb pss_nil
end

/-! ### rows of things, entries -/
theorem map_get {α : Type} {f : α → V} {l : List α} {i : Nat} {x : V} (h : (l.map f)[i]? = some x) : ∃ e, l[i]? = some e ∧ x = f e ∧ l.take (i + 1) = l.take i ++ [e] := by
  rw [List.getElem?_map] at h
  obtain ⟨e, h1, h2⟩ := Option.map_eq_some_iff.mp h
  refine ⟨e, h1, h2.symm, ?_⟩
  rw [List.take_succ, h1]
  rfl
theorem dpa_map {α : Type} {K : Frg} {H : Hp} {f : α → V} {g : α → PyData} : ∀ {l : List α}, (∀ e ∈ l, Dp K H (f e) (g e)) → DpAll K H (l.map f) (l.map g)
  | [], _ => .nil
  | x :: l, h => .cons (h x (List.mem_cons_self ..)) (dpa_map fun e he => h e (List.mem_cons_of_mem _ he))
theorem tpa_map {α : Type} {H : Hp} {f : α → V} {g : α → PyData} : ∀ {l : List α}, (∀ e ∈ l, Tp H (f e) (g e)) → TpAll H (l.map f) (l.map g)
  | [], _ => .nil
  | x :: l, h => .cons (h x (List.mem_cons_self ..)) (tpa_map fun e he => h e (List.mem_cons_of_mem _ he))
theorem vl_ref {H : Hp} {v : V} {t : Vl} (h : Tp H v t.dat) : ∃ u, v = .ref u := by
  cases t <;> (obtain ⟨a, _, e, _⟩ := tp_tup h; exact ⟨a, e⟩)
theorem EntAt.tk {H H' : Hp} {e : Ent} (k : Tk H H') (h : EntAt H e) : EntAt H' e := ⟨k _ _ h.1, k _ _ h.2⟩

/-! ### deep equality -/
def rEqW (K : Frg) : R2 := fun x y H Q => ∃ d, Dp K H x d ∧ Dp K H y d ∧ d.canLay0 = true ∧ d.depth ≤ 150 ∧ Q (.bl true) H
def rNeW (K : Frg) : R2 := fun x y H Q => ∃ d, Dp K H x d ∧ Dp K H y d ∧ d.canLay0 = true ∧ d.depth ≤ 150 ∧ Q (.bl false) H
theorem op_eqW {X : Cx} {k : Nat} (hr : Room k X.A) : OpR X (compareOp .Eq) (rEqW X.K) := by
  intro pins s σ H x y v u Q I rx ry h
  obtain ⟨d, hd, he, sd, sl, q⟩ := h
  obtain ⟨as, r1⟩ := Dp.reads I d x v hd rx
  obtain ⟨bs, r2⟩ := Dp.reads I d y u he ry
  have := hr.un
  refine SeqAt.compareEq_reads r1 r2 sd sd (by rw [Nat.min_self]; omega) ?_
  rw [SeqAt.eqv_refl d sd]
  exact ⟨.bl true, H, I, rfl, q⟩
theorem op_neW {X : Cx} {k : Nat} (hr : Room k X.A) : OpR X (compareOp .NotEq) (rNeW X.K) := by
  intro pins s σ H x y v u Q I rx ry h
  obtain ⟨d, hd, he, sd, sl, q⟩ := h
  obtain ⟨as, r1⟩ := Dp.reads I d x v hd rx
  obtain ⟨bs, r2⟩ := Dp.reads I d y u he ry
  have := hr.un
  refine SeqAt.compareNe_reads r1 r2 sd sd (by rw [Nat.min_self]; omega) ?_
  rw [SeqAt.eqv_refl d sd]
  exact ⟨.bl false, H, I, rfl, q⟩
/-! ### what values look like to it -/
theorem lay_lf {k : Str} {r : List PyData} (h : Lf k r) : PyData.canLay0 (.str k) = true ∧ PyData.canLayAll0 r = true ∧ PyData.depthAll r ≤ 1 := by
  cases h with
  | null => exact ⟨by decide +kernel, rfl, Nat.zero_le _⟩
  | truth b => exact ⟨by decide +kernel, rfl, by simp [PyData.depthAll, PyData.depth]⟩
  | number m e => exact ⟨by decide +kernel, rfl, by simp [PyData.depthAll, PyData.depth]⟩
  | bytes os ho =>
    refine ⟨by decide +kernel, ?_, ?_⟩
    · show (PyData.canLay0 (kd os) && true) = true
      rw [Bool.and_true]
      exact lay_kd os
    · show max (kd os).depth 0 ≤ 1
      exact Nat.max_le.mpr ⟨depth_kd1 os, Nat.zero_le _⟩
  | text ps hp =>
    refine ⟨by decide +kernel, ?_, ?_⟩
    · show (PyData.canLay0 (kd ps) && true) = true
      rw [Bool.and_true]
      exact lay_kd ps
    · show max (kd ps).depth 0 ≤ 1
      exact Nat.max_le.mpr ⟨depth_kd1 ps, Nat.zero_le _⟩
theorem lay_list : PyData.canLay0 (.str "list") = true := by decide +kernel
theorem lay_map : PyData.canLay0 (.str "map") = true := by decide +kernel
mutual
theorem vl_lay : ∀ (n : Nat) (t : Vl), t.ok n → t.dat.canLay0 = true
  | n, .lf k r, h => by
    obtain ⟨h1, h2, _⟩ := lay_lf (show Lf k r by cases n <;> exact h)
    show (PyData.canLay0 (.str k) && PyData.canLayAll0 r) = true
    rw [h1, h2]
    rfl
  | 0, .ls xs, h => h.elim
  | n + 1, .ls xs, h => by
    show (PyData.canLay0 (.str "list") && (PyData.canLayAll0 (datL xs) && true)) = true
    rw [lay_list, vlL_lay n xs h.2]
    rfl
  | 0, .mp es, h => h.elim
  | n + 1, .mp es, h => by
    show (PyData.canLay0 (.str "map") && (PyData.canLayAll0 (datM es) && true)) = true
    rw [lay_map, vlM_lay n es h.2.2.2]
    rfl
theorem vlL_lay : ∀ (n : Nat) (xs : List Vl), vokL n xs → PyData.canLayAll0 (datL xs) = true
  | _, [], _ => rfl
  | n, x :: xs, h => by
    show (x.dat.canLay0 && PyData.canLayAll0 (datL xs)) = true
    rw [vl_lay n x h.1, vlL_lay n xs h.2]
    rfl
theorem vlM_lay : ∀ (n : Nat) (xs : List (List Int × Vl)), vokM n xs → PyData.canLayAll0 (datM xs) = true
  | _, [], _ => rfl
  | n, (k, x) :: xs, h => by
    show ((PyData.canLay0 (kd k) && (x.dat.canLay0 && true)) && PyData.canLayAll0 (datM xs)) = true
    rw [vl_lay n x h.1, vlM_lay n xs h.2, show PyData.canLay0 (kd k) = true from lay_kd k]
    rfl
end
mutual
theorem vl_depth : ∀ (n : Nat) (t : Vl), t.ok n → t.dat.depth ≤ 3 * n + 2
  | n, .lf k r, h => by
    obtain ⟨_, _, h3⟩ := lay_lf (show Lf k r by cases n <;> exact h)
    show max 0 (PyData.depthAll r) + 1 ≤ _
    omega
  | 0, .ls xs, h => h.elim
  | n + 1, .ls xs, h => by
    have q := vlL_depth n xs h.2
    show max 0 (max (PyData.depthAll (datL xs) + 1) 0) + 1 ≤ _
    omega
  | 0, .mp es, h => h.elim
  | n + 1, .mp es, h => by
    have q := vlM_depth n es h.2.2.2
    show max 0 (max (PyData.depthAll (datM es) + 1) 0) + 1 ≤ _
    omega
theorem vlL_depth : ∀ (n : Nat) (xs : List Vl), vokL n xs → PyData.depthAll (datL xs) ≤ 3 * n + 2
  | _, [], _ => Nat.zero_le _
  | n, x :: xs, h => by
    have q1 := vl_depth n x h.1
    have q2 := vlL_depth n xs h.2
    show max x.dat.depth (PyData.depthAll (datL xs)) ≤ _
    omega
theorem vlM_depth : ∀ (n : Nat) (xs : List (List Int × Vl)), vokM n xs → PyData.depthAll (datM xs) ≤ 3 * n + 3
  | _, [], _ => Nat.zero_le _
  | n, (k, x) :: xs, h => by
    have q1 := vl_depth n x h.1
    have q2 := vlM_depth n xs h.2
    have q3 := depth_kd1 k
    show max (max (kd k).depth (max x.dat.depth 0) + 1) (PyData.depthAll (datM xs)) ≤ _
    omega
end
/-! ### sorted lists of entries -/
theorem sorted_uniq : ∀ {zs ys : List (List Int × Vl)}, zs.Perm ys → (zs.map (·.1)).Pairwise (fun x y => HT.lexLt x y = true) → (ys.map (·.1)).Pairwise (fun x y => HT.lexLt x y = true) → zs = ys
  | [], ys, p, _, _ => (List.Perm.eq_nil p.symm).symm
  | z :: zs, [], p, _, _ => absurd p.length_eq (by simp)
  | z :: zs, y :: ys, p, h1, h2 => by
    rw [List.map_cons, List.pairwise_cons] at h1 h2
    have e : z = y := by
      rcases List.mem_cons.mp (p.mem_iff.mp (List.mem_cons_self (a := z) (l := zs))) with q | q
      · exact q
      · rcases List.mem_cons.mp (p.mem_iff.mpr (List.mem_cons_self (a := y) (l := ys))) with q2 | q2
        · exact q2.symm
        · have a := h2.1 z.1 (List.mem_map.mpr ⟨z, q, rfl⟩)
          have b := h1.1 y.1 (List.mem_map.mpr ⟨y, q2, rfl⟩)
          rw [lexLt_asym _ _ a] at b
          cases b
    subst e
    rw [sorted_uniq p.cons_inv h1.2 h2.2]


def EdAt (H : Hp) (e : Ent × Vl) : Prop := EntAt H e.1 ∧ Tp H (.ref e.1.u) e.2.dat
theorem EdAt.tk {H H' : Hp} {e : Ent × Vl} (k : Tk H H') (h : EdAt H e) : EdAt H' e := ⟨h.1.tk k, Tp.tk k _ _ h.2⟩
def pr (e : Ent × Vl) : List Int × Vl := (e.1.k, e.2)
def sp_list_of (K : Frg) : Sp := sp1 fun a H Q _ => ∃ p vs ts, a = .ref p ∧ H p = some (.lst vs) ∧ TpAll H vs (datL ts) ∧ ∀ v H', Tp H' v (Vl.ls ts).dat → Same H H' → Q v H'
def sp_map_of (K : Frg) : Sp := sp1 fun a H Q _ => ∃ p, ∃ es : List (Ent × Vl), a = .ref p ∧ H p = some (.lst (es.map fun e => V.ref e.1.t)) ∧ (∀ e ∈ es, EdAt H e) ∧ (es.map (·.1.k)).Nodup ∧ es.length ≤ 1000 ∧
  ∀ v zs H', zs.Perm (es.map pr) → (zs.map (·.1)).Pairwise (fun x y => HT.lexLt x y = true) → Tp H' v (Vl.mp zs).dat → Same H H' → Q v H'
def ik (k : List Int) : List L2.Key := k.map Sum.inl
theorem ik_inj {a b : List Int} (h : ik a = ik b) : a = b := by
  induction a generalizing b with
  | nil =>
    cases b with
    | nil => rfl
    | cons y b => cases h
  | cons x a ih =>
    cases b with
    | nil => cases h
    | cons y b =>
      injection h with h1 h2
      injection h1 with h1
      rw [h1, ih h2]
def tbl (es : List (Ent × Vl)) : List (List L2.Key × V) := es.map fun e => (ik e.1.k, V.ref e.1.u)
theorem tbl_none {k : List Int} : ∀ {es : List (Ent × Vl)}, (∀ e ∈ es, e.1.k ≠ k) → valV (tbl es) (ik k) = none
  | [], _ => rfl
  | e :: es, h => by
    show valV ((ik e.1.k, V.ref e.1.u) :: tbl es) (ik k) = none
    rw [valV_neg (fun q => h e (List.mem_cons_self ..) (ik_inj q))]
    exact tbl_none fun x hx => h x (List.mem_cons_of_mem _ hx)
theorem tbl_some : ∀ {es : List (Ent × Vl)} {e : Ent × Vl}, (es.map (·.1.k)).Nodup → e ∈ es → valV (tbl es) (ik e.1.k) = some (.ref e.1.u)
  | [], _, _, h => absurd h (by simp)
  | x :: es, e, hn, h => by
    rw [List.map_cons, List.nodup_cons] at hn
    show valV ((ik x.1.k, V.ref x.1.u) :: tbl es) (ik e.1.k) = _
    rcases List.mem_cons.mp h with q | q
    · subst q
      rw [valV_pos rfl]
    · rw [valV_neg (fun z => hn.1 (by rw [ik_inj z]; exact List.mem_map.mpr ⟨e, q, rfl⟩))]
      exact tbl_some hn.2 q
theorem tbl_put {k : List Int} {v : V} {es : List (Ent × Vl)} (h : ∀ e ∈ es, e.1.k ≠ k) : putK (tbl es) (ik k) v = tbl es ++ [(ik k, v)] := by
  unfold putK
  rw [valV_any, tbl_none h]
  rfl
theorem take_mem {α : Type} {l : List α} {i : Nat} {e : α} (h : e ∈ l.take i) : ∃ j, j < i ∧ l[j]? = some e := by
  obtain ⟨j, hj, e2⟩ := List.getElem_of_mem h
  rw [List.getElem_take] at e2
  rw [List.length_take] at hj
  exact ⟨j, by omega, by rw [List.getElem?_eq_getElem (by omega), e2]⟩
theorem tpa_eds {H : Hp} {cs : List (Ent × Vl)} (h : ∀ e ∈ cs, EdAt H e) : TpAll H (cs.map fun e => V.ref e.1.t) (datM (cs.map pr)) := by
  rw [datM_map, List.map_map]
  exact tpa_map fun e he => .tup (h e he).1.1 (.cons (tp_kd (h e he).1.2) (.cons (h e he).2 .nil))
theorem r_dget {σ : St} {H : Hp} {Q : VK} {td ty : TE} (h : td σ H fun x H1 => ty σ H1 fun y H2 => ∃ a v, x = .ref a ∧ DGet H2 a y (some v) ∧ Q v H2) : tDGet td ty σ H Q := h
section
variable {P : Program} {w : World} {K : PySem.W.Frag} {mg : Str → Option Value} {base : Heap} {f : Addr} {fd : FuncData}
theorem ok_list_of (F : FunD K "list_of" "list_of" (defArgs s_list_of) (defBody s_list_of) (defScope s_list_of) [] [] (glAd "list_of" K) fd) (m : mg "list_of" = some (.ref (glAd "list_of" K))) (nb : Nm w K mg) : Cal P w K mg base 1 "list_of" (sp_list_of K) [] := by
  refine calD F m sc_list_of (fun _ _ _ _ _ _ us hl => match us, hl with | [_], _ => rfl) len1 (fun cdv A outer s H vs Q E hr h => ⟨_, (pss_one (ps_ret (pe_tup (pa_cons pe_str (pa_cons (pe_callTy call_tuple_of (by rfl) nb.tuple (by decide +kernel) (pa_cons (pv 0) pa_nil)) pa_nil))))), ?_⟩)
  obtain ⟨_, rfl, p, vs, ts, rfl, hp, tp, h⟩ := h
  walk_at "rd"
  refine ⟨p, _, rfl, .inl ⟨SqL.of hp, fun t nt => ?_⟩⟩
  walk_at "rd"
  refine ⟨by show 2 ≤ sizeLine; decide, fun q nq => ?_⟩
  have s := (same_upd nt (.tup vs)).trans (same_upd nq (.tup [.str "list", .ref t]))
  exact h (.ref q) _ (.tup upd_same (.cons (.str _) (.cons (.tup (same_upd nq _ _ _ upd_same) (TpAll.tk (Same.tk s) _ _ tp)) .nil))) s
theorem ok_map_of (F : FunD K "map_of" "map_of" (defArgs s_map_of) (defBody s_map_of) (defScope s_map_of) [] [] (glAd "map_of" K) fd) (m : mg "map_of" = some (.ref (glAd "map_of" K))) (nb : Nm w K mg) : Cal P w K mg base 1 "map_of" (sp_map_of K) [] := by
  refine calD F m sc_map_of (fun _ _ _ _ _ _ us hl => match us, hl with | [_], _ => rfl) len1 (fun cdv A outer s H vs Q E hr h => ⟨_, (pss_cons (ps_set (i := 1) sc_map_of.nd rfl (Or.inr rfl) pe_dnewT)
    (pss_cons (ps_for PassesOwn.never rfl (pi_list (pv 0)) (pg_tup rfl (pgs_cons (pg_name (i := 2) sc_map_of.nd rfl (Or.inl rfl)) (pgs_cons (pg_name (i := 3) sc_map_of.nd rfl (Or.inl rfl)) pgs_nil)))
    (pss_cons (ps_set (i := 4) sc_map_of.nd rfl (Or.inl rfl) (pe_callTy call_tuple_of (by rfl) nb.tuple (by decide +kernel) (pa_cons (pv 2) pa_nil)))
    (pss_cons (ps_if (pt_cmp (pc_din (hu_of hr) (pv 4) (pv 1)))
    (pss_one ps_never)
    pss_nil)
    (pss_one (ps_dput (hu_of hr) (pv 1) (pv 4) (pv 3) rfl)))))
    (pss_one (ps_ret (pe_tup (pa_cons pe_str (pa_cons (pe_callTy call_tuple_of (by rfl) nb.tuple (by decide +kernel) (pa_cons (pe_lc (own := [("key", 4)]) (g := gName 4) (tt := tYes) rfl sc_map_of.nd (pi_list (pe_callB (cr_sortedTD rfl hr.units) (by rfl) nb.sorted (by decide +kernel) (pa_cons (pv 1) pa_nil))) (blkOk_by (N := ["entries", "table", "points", "value", "key"]) (sc := defScope s_map_of) (by decide +kernel)) (fun _ _ _ _ _ => pg_name (i := 4) sc_map_of.nd rfl (Or.inl rfl)) (fun _ _ _ _ _ => pts_nil) (fun _ _ _ _ _ => (pe_tup (pa_cons (pv 4) (pa_cons (pe_dget (hu_of hr) (pv 1) (pv 4) (fun _ _ => rfl)) pa_nil))))) pa_nil)) pa_nil))))))), ?_⟩)
  obtain ⟨_, rfl, p, es, rfl, hp, he, hn, hl, h⟩ := h
  walk_at "rd"
  intro d nd
  have s1 := same_upd nd (.dT [])
  have hd1 : upd H d (.dT []) d = some (.dT (tbl [])) := upd_same
  generalize upd H d (.dT []) = H1 at s1 hd1 ⊢
  walk_at "rd"
  refine ⟨p, rfl, ⟨_, SqL.of (s1 _ _ hp)⟩, r_eachL (xs := es.map fun e => V.ref e.1.t) (fun i σ H' => ∃ (y2 y3 y4 : Option V), Same H H' ∧ H' d = some (.dT (tbl (es.take i))) ∧ σ = [some (.ref p), some (.ref d), y2, y3, y4]) ⟨none, none, none, s1, hd1, rfl⟩ ?_ ?_ ?_⟩
  · rintro i σ H' ⟨y2, y3, y4, s2, _⟩
    exact SqL.of (s2 _ _ hp)
  · rintro i x σ H2 hx ⟨y2, y3, y4, s2, hd2, rfl⟩
    obtain ⟨e, hi, rfl, et⟩ := map_get hx
    obtain ⟨⟨g1, g2⟩, g3⟩ := (he e (List.mem_of_getElem? hi)).tk (Same.tk s2)
    have hno : ∀ x ∈ es.take i, x.1.k ≠ e.1.k := fun x hx q => by
      obtain ⟨j, hj, hxj⟩ := take_mem hx
      have hpw := List.pairwise_iff_getElem.mp hn
      have h1 : j < es.length := (List.getElem?_eq_some_iff.mp hxj).1
      have h2 : i < es.length := (List.getElem?_eq_some_iff.mp hi).1
      have h3 := hpw j i (by rw [List.length_map]; exact h1) (by rw [List.length_map]; exact h2) hj
      rw [List.getElem_map, List.getElem_map, (List.getElem?_eq_some_iff.mp hxj).2, (List.getElem?_eq_some_iff.mp hi).2] at h3
      exact h3 q
    refine r_gtup (SqT.of g1) rfl ?_
    walk_at "rd"
    refine ⟨e.1.q, _, rfl, .inr ⟨SqT.of g2, ?_⟩⟩
    walk_at "rd"
    have eb : H2 e.1.q = some (.tup ((ik e.1.k).map kV)) := by
      rw [g2]
      unfold ik
      rw [kv_ints]
    refine r_din ?_
    walk_at "rd"
    refine ⟨d, _, rfl, DGet.t hd2 eb, ?_⟩
    rw [tbl_none hno]
    refine r_bl (r_iteF ?_)
    walk_at "rd"
    refine r_dput ?_
    walk_at "rd"
    refine ⟨d, _, rfl, DPut.t hd2 eb (small1000 (by unfold tbl; rw [List.length_map, List.length_take]; omega)), ?_⟩
    refine ⟨_, _, _, same_away s2 nd, ?_, rfl⟩
    rw [upd_same, tbl_put hno, et]
    unfold tbl
    rw [List.map_append]
    rfl
  · rintro σ H2 ⟨y2, y3, y4, s2, hd2, rfl⟩
    rw [List.length_map, List.take_length] at hd2
    walk_at "rd"
    refine ⟨d, _, es.map (·.1.k), rfl, hd2, ?_, fun l qs pq sq hq nl => ?_⟩
    · unfold tbl
      rw [List.map_map, List.map_map]
      rfl
    obtain ⟨zs, pz, ez⟩ := perm_up (fun e : Ent × Vl => e.1.k) pq
    have s3 := same_upd nl (.lst (qs.map fun z => V.ref z.1))
    have hl3 : upd H2 l (.lst (qs.map fun z => V.ref z.1)) l = some (.lst (qs.map fun z => V.ref z.1)) := upd_same
    generalize upd H2 l (.lst (qs.map fun z => V.ref z.1)) = H3 at s3 hl3 ⊢
    refine ⟨l, rfl, ⟨_, SqL.of hl3⟩, fun D nD => ?_⟩
    refine lc_list (xs := qs.map fun z => V.ref z.1) (fun j H' => ∃ cs : List (Ent × Vl), Same H3 H' ∧ H' D = some (.lst (cs.map fun c => V.ref c.1.t)) ∧ (∀ c ∈ cs, EdAt H' c) ∧ cs.map pr = (zs.take j).map pr) ⟨[], same_upd nD _, upd_same, fun _ h => absurd h (by simp), rfl⟩ (fun j H' _ hh => by obtain ⟨cs, h1, _⟩ := hh; exact SqL.of (h1 _ _ hl3)) ?_ ?_
    · rintro j x H4 hx ⟨cs, s4, hD4, hc, ec⟩
      obtain ⟨z, hj, rfl, _⟩ := map_get hx
      have hjz : (zs.map fun e => e.1.k)[j]? = some z.2 := by
        rw [ez, List.getElem?_map, hj]
        rfl
      rw [List.getElem?_map] at hjz
      obtain ⟨e, hje, hke⟩ := Option.map_eq_some_iff.mp hjz
      have hem : e ∈ es := pz.mem_iff.mp (List.mem_of_getElem? hje)
      have hqz := s4 _ _ (s3 _ _ (hq z (List.mem_of_getElem? hj)))
      have hlc : cs.length ≤ 1000 := by
        have q := congrArg List.length ec
        rw [List.length_map, List.length_map, List.length_take, pz.length_eq] at q
        omega
      walk_at "rd"
      refine ⟨rfl, ?_⟩
      walk_at "rd"
      have eb : H4 z.1 = some (.tup ((ik z.2).map kV)) := by
        rw [hqz]
        unfold ik
        rw [kv_ints]
      refine r_dget ?_
      walk_at "rd"
      refine ⟨d, .ref e.1.u, rfl, ?_, ?_⟩
      · have q := DGet.t (s4 _ _ (s3 _ _ hd2)) eb
        rw [← hke, tbl_some hn hem] at q
        exact q
      refine ⟨by show 2 ≤ sizeLine; decide, fun T nT => ?_⟩
      have s5 := same_upd nT (.tup [.ref z.1, .ref e.1.u])
      have hD5 := s5 _ _ hD4
      have tk5 := (Same.tk s5).trans (tk_put (o := .lst ((cs.map fun c => V.ref c.1.t) ++ [.ref T])) hD5)
      refine ⟨_, hD5, small1000 (by rw [List.length_map]; have q := congrArg List.length ec; rw [List.length_map, List.length_map, List.length_take, pz.length_eq] at q; have := (List.getElem?_eq_some_iff.mp hje).1; rw [pz.length_eq] at this; omega), cs ++ [(⟨T, z.1, e.1.u, z.2⟩, e.2)], same_away (s4.trans s5) nD, ?_, fun c hcm => ?_, ?_⟩
      · rw [upd_same, List.map_append]
        rfl
      · rcases List.mem_append.mp hcm with q | q
        · exact (hc c q).tk tk5
        · have e5 : c = (⟨T, z.1, e.1.u, z.2⟩, e.2) := by simpa using q
          subst e5
          refine ⟨⟨tk_put hD5 _ _ upd_same, tk5 _ _ hqz⟩, ?_⟩
          exact Tp.tk tk5 _ _ (Tp.tk (Same.tk ((s2.trans s3).trans s4)) _ _ (he e hem).2)
      · rw [List.map_append, ec, take_one hje, List.map_append]
        show _ ++ [(z.2, e.2)] = _ ++ [(e.1.k, e.2)]
        rw [← hke]
    · rintro H4 ⟨cs, s4, hD4, hc, ec⟩
      rw [List.length_map] at ec
      have hql : qs.length = zs.length := by
        have q := congrArg List.length ez
        rw [List.length_map, List.length_map] at q
        exact q.symm
      rw [hql, List.take_length] at ec
      walk_at "rd"
      refine ⟨D, _, rfl, .inl ⟨SqL.of hD4, fun t nt => ?_⟩⟩
      walk_at "rd"
      refine ⟨by show 2 ≤ sizeLine; decide, fun q nq => ?_⟩
      have s6 := (same_upd nt (.tup (cs.map fun c => V.ref c.1.t))).trans (same_upd nq (.tup [.str "map", .ref t]))
      refine h (.ref q) (zs.map pr) _ (pz.map pr) ?_ (.tup upd_same (.cons (.str _) (.cons (.tup (same_upd nq _ _ _ upd_same) ?_) .nil))) (((s2.trans s3).trans s4).trans s6)
      · have e2 : (zs.map pr).map (·.1) = qs.map (·.2) := by
          rw [List.map_map, ← ez]
          rfl
        rw [e2]
        exact sq
      · rw [← ec]
        have hc6 : ∀ c ∈ cs, EdAt _ c := fun c hm => (hc c hm).tk (Same.tk s6)
        exact tpa_eds hc6
end

/-! ### frames -/



def FrAt (K : Frg) (H : Hp) (a l : Addr) (kind : Str) (key : V) (vs : List V) : Prop := ∃ dx, H a = some (.ins (C_Frame K) dx (fs_Frame (.str kind) key (.ref l))) ∧ H l = some (.lst vs)
theorem fr_ne {K : Frg} {H : Hp} {a l : Addr} {kind : Str} {key : V} {vs : List V} (h : FrAt K H a l kind key vs) : l ≠ a := by
  obtain ⟨dx, h1, h2⟩ := h
  rintro rfl
  rw [h1] at h2
  cases h2
theorem FrAt.same {K : Frg} {H H' : Hp} {a l : Addr} {kind : Str} {key : V} {vs : List V} (s : Same H H') (h : FrAt K H a l kind key vs) : FrAt K H' a l kind key vs := by
  obtain ⟨dx, h1, h2⟩ := h
  exact ⟨dx, s _ _ h1, s _ _ h2⟩
def sp_Frame___init__ (K : Frg) : Sp := sp2 fun p o H Q _ => ∃ a dx kind, p = .ref a ∧ o = .str kind ∧ H a = some (.ins (C_Frame K) dx []) ∧ ∀ l H', H l = none → l ≠ a → FrAt K H' a l kind .non [] → (∀ b u, b ≠ a → H b = some u → H' b = some u) → Q .non H'
def sp_Frame_put (K : Frg) : Sp := sp2 fun p o H Q _ => ∃ a l kind key vs, p = .ref a ∧ FrAt K H a l kind key vs ∧ vs.length ≤ 1000 ∧
  (kind = "map" → ∀ T H', H T = none → H' T = some (.tup [key, o]) → FrAt K H' a l kind key (vs ++ [.ref T]) → Bt l H H' → Q .non H') ∧
  (kind ≠ "map" → ∀ H', FrAt K H' a l kind key (vs ++ [o]) → Bt l H H' → Q .non H')
def sp_Frame_built (K : Frg) : Sp := sp1 fun p H Q _ => ∃ a l kind key vs, p = .ref a ∧ FrAt K H a l kind key vs ∧
  (kind = "map" → ∃ es : List (Ent × Vl), vs = es.map (fun e => V.ref e.1.t) ∧ (∀ e ∈ es, EdAt H e) ∧ (es.map (·.1.k)).Nodup ∧ es.length ≤ 1000 ∧
    ∀ v zs H', zs.Perm (es.map pr) → (zs.map (·.1)).Pairwise (fun x y => HT.lexLt x y = true) → Tp H' v (Vl.mp zs).dat → Same H H' → Q v H') ∧
  (kind ≠ "map" → ∃ ts, TpAll H vs (datL ts) ∧ ∀ v H', Tp H' v (Vl.ls ts).dat → Same H H' → Q v H')
section
variable {P : Program} {w : World} {K : PySem.W.Frag} {mg : Str → Option Value} {base : Heap} {f : Addr} {fd : FuncData}
theorem ok_Frame___init__ (F : FunD K "__init__" "Frame.__init__" (defArgs s_Frame___init__) (defBody s_Frame___init__) (defScope s_Frame___init__) [] [] (meAd "Frame" "__init__" K) fd) (nb : Nm w K mg) : Mak P w K mg base 1 "Frame" (C_Frame K) (sp_Frame___init__ K) [] := by
  refine makD F nb.mk_Frame nb.g_Frame sc_Frame___init__ (fun _ _ _ _ _ _ us hl => match us, hl with | [_, _], _ => rfl) len2 (fun cdv A outer s H vs Q E hr h => ⟨_, (pss_cons (ps_fld (pv 0) (pv 1) rfl)
    (pss_cons (ps_fld (pv 0) pe_non rfl)
    (pss_one (ps_fld (pv 0) (pe_lst pa_nil) rfl)))), ?_⟩)
  obtain ⟨_, _, rfl, a, dx, kind, rfl, rfl, hA, h⟩ := h
  walk_at "rd"
  refine r_fsetK hA nb.cl_Frame nb.na_Frame_kind (by decide) (in_Frame_kind) fun H1 hA1 f1 => ?_
  walk_at "rd"
  refine r_fsetK hA1 nb.cl_Frame nb.na_Frame_key (by simp) (in_Frame_key) fun H2 hA2 f2 => ?_
  walk_at "rd"
  refine ⟨Nat.zero_le _, fun l hl => ?_⟩
  have hne : l ≠ a := fun z => by rw [z, hA2] at hl; cases hl
  have hl0 : H l = none := by
    rw [f2 l hne, f1 l hne] at hl
    exact hl
  have hA3 : upd H2 l (.lst []) a = some _ := (upd_ne (Ne.symm hne)).trans hA2
  have hL3 : upd H2 l (.lst []) l = some (.lst []) := upd_same
  have f3 : ∀ b u, b ≠ a → H b = some u → upd H2 l (.lst []) b = some u := fun b u h1 h2 => same_upd hl _ b u (by rw [f2 b h1, f1 b h1]; exact h2)
  generalize upd H2 l (.lst []) = H3 at hA3 hL3 f3 ⊢
  walk_at "rd"
  refine r_fsetK hA3 nb.cl_Frame nb.na_Frame_inside (by simp) (in_Frame_inside) fun H4 hA4 f4 => ?_
  exact h l H4 hl0 hne ⟨dx, hA4, by rw [f4 l hne]; exact hL3⟩ fun b u h1 h2 => by rw [f4 b h1]; exact f3 b u h1 h2
theorem ok_Frame_put (F : FunD K "put" "Frame.put" (defArgs s_Frame_put) (defBody s_Frame_put) (defScope s_Frame_put) [] [] (meAd "Frame" "put" K) fd) (nb : Nm w K mg) : Met P w K mg base 1 (C_Frame K) "put" (sp_Frame_put K) [] := by
  refine metD F nb.cl_Frame nb.me_Frame_put sc_Frame_put (fun _ _ _ _ _ _ us hl => match us, hl with | [_, _], _ => rfl) len2 (fun cdv A outer s H vs Q E hr h => ⟨_, (pss_one (ps_if (pt_cmpR op_eq (pe_fld (pv 0) rfl) pe_str (nomark _))
    (pss_one (ps_expr (pe_bm PySem.F.plainAttrs_list PySem.F.slot_list_append PySem.F.type_list_append mt_append (pe_fld (pv 0) rfl) (pa_cons (pe_tup (pa_cons (pe_fld (pv 0) rfl) (pa_cons (pv 1) pa_nil))) pa_nil))))
    (pss_one (ps_expr (pe_bm PySem.F.plainAttrs_list PySem.F.slot_list_append PySem.F.type_list_append mt_append (pe_fld (pv 0) rfl) (pa_cons (pv 1) pa_nil)))))), ?_⟩)
  obtain ⟨_, v, rfl, a, l, kind, key, vs, rfl, hF, hlen, h1, h2⟩ := h
  have hne := fr_ne hF
  obtain ⟨dx, hA, hL⟩ := id hF
  walk_at "rd"
  refine r_fget hA nb.cl_Frame nb.na_Frame_kind lk_Frame_kind ?_
  walk_at "rd"
  refine r_ite (fun c => ?_) (fun c => ?_)
  · walk_at "rd"
    refine r_fget hA nb.cl_Frame nb.na_Frame_inside lk_Frame_inside ?_
    refine ⟨tyL hL, ?_⟩
    walk_at "rd"
    refine r_fget hA nb.cl_Frame nb.na_Frame_key lk_Frame_key ?_
    walk_at "rd"
    refine ⟨by show 2 ≤ sizeLine; decide, fun T nT => ?_⟩
    have s1 := same_upd nT (.tup [key, v])
    walk_at "rd"
    refine r_appK (s1 _ _ hL) (small1000 (by omega) |> fun z => z) fun H2 hL2 f2 => ?_
    have lT : T ≠ l := fun e => by rw [e, hL] at nT; cases nT
    exact h1 c T H2 nT (by rw [f2 T lT, upd_same]) ⟨dx, by rw [f2 a (Ne.symm hne)]; exact s1 _ _ hA, hL2⟩ fun b u n1 z => by rw [f2 b n1]; exact s1 _ _ z
  · walk_at "rd"
    refine r_fget hA nb.cl_Frame nb.na_Frame_inside lk_Frame_inside ?_
    refine ⟨tyL hL, ?_⟩
    walk_at "rd"
    refine r_appK hL (small1000 (by omega)) fun H2 hL2 f2 => ?_
    exact h2 c H2 ⟨dx, by rw [f2 a (Ne.symm hne)]; exact hA, hL2⟩ fun b u n1 z => by rw [f2 b n1]; exact z
theorem ok_Frame_built (F : FunD K "built" "Frame.built" (defArgs s_Frame_built) (defBody s_Frame_built) (defScope s_Frame_built) [] [] (meAd "Frame" "built" K) fd) (nb : Nm w K mg) (c_list_of : Cal P w K mg base 1 "list_of" (sp_list_of K) []) (c_map_of : Cal P w K mg base 1 "map_of" (sp_map_of K) []) : Met P w K mg base 2 (C_Frame K) "built" (sp_Frame_built K) [] := by
  refine metD F nb.cl_Frame nb.me_Frame_built sc_Frame_built (fun _ _ _ _ _ _ us hl => match us, hl with | [_], _ => rfl) len1 (fun cdv A outer s H vs Q E hr h => ⟨_, (pss_cons (ps_if (pt_cmpR op_eq (pe_fld (pv 0) rfl) pe_str (nomark _))
    (pss_one (ps_ret (pe_c c_map_of hr (by decide) rfl (pa_cons (pe_fld (pv 0) rfl) pa_nil))))
    pss_nil)
    (pss_one (ps_ret (pe_c c_list_of hr (by decide) rfl (pa_cons (pe_fld (pv 0) rfl) pa_nil))))), ?_⟩)
  obtain ⟨_, rfl, a, l, kind, key, vs, rfl, ⟨dx, hA, hL⟩, h1, h2⟩ := h
  walk_at "rd"
  refine r_fget hA nb.cl_Frame nb.na_Frame_kind lk_Frame_kind ?_
  walk_at "rd"
  refine r_ite (fun c => ?_) (fun c => ?_)
  · obtain ⟨es, rfl, he, hn, hl, hq⟩ := h1 c
    walk_at "rd"
    refine r_fget hA nb.cl_Frame nb.na_Frame_inside lk_Frame_inside ?_
    walk_at "rd"
    exact ⟨_, rfl, l, es, rfl, hL, he, hn, hl, hq⟩
  · obtain ⟨ts, ht, hq⟩ := h2 c
    walk_at "rd"
    refine r_fget hA nb.cl_Frame nb.na_Frame_inside lk_Frame_inside ?_
    walk_at "rd"
    exact ⟨_, rfl, l, vs, ts, rfl, hL, ht, hq⟩
end

/-! ### the builder, as it ought to be -/
structure Pf where
  m : Bool
  k : Option (List Int)
  ins : List (List Int × Vl)
structure Bs where
  fs : List Pf
  val : Option Vl
def sortM (es : List (List Int × Vl)) : List (List Int × Vl) := es.mergeSort fun a b => !HT.lexLt b.1 a.1
theorem sortM_perm (es : List (List Int × Vl)) : (sortM es).Perm es := List.mergeSort_perm es _
theorem sortM_strict {es : List (List Int × Vl)} (h : (es.map (·.1)).Nodup) : ((sortM es).map (·.1)).Pairwise (fun x y => HT.lexLt x y = true) := by
  have h1 := List.pairwise_mergeSort (le := fun (a b : List Int × Vl) => !HT.lexLt b.1 a.1) (fun a b c q1 q2 => by
    simp only [Bool.not_eq_true'] at q1 q2 ⊢
    exact lexLt_ntr _ _ _ q1 q2) (fun a b => by
    cases q : HT.lexLt b.1 a.1 with
    | false => rfl
    | true => rw [lexLt_asym _ _ q]; rfl) es
  refine strict_of ?_ (((sortM_perm es).map (·.1)).nodup_iff.mpr h)
  rw [List.pairwise_map]
  exact h1.imp fun {a b} q => by simpa using q
theorem strict_nodup {l : List (List Int)} (h : l.Pairwise (fun x y => HT.lexLt x y = true)) : l.Nodup := h.imp fun {a b} q e => by
  subst e
  rw [lexLt_irr] at q
  cases q
theorem sortM_uniq {zs es : List (List Int × Vl)} (p : zs.Perm es) (s : (zs.map (·.1)).Pairwise (fun x y => HT.lexLt x y = true)) : zs = sortM es :=
  sorted_uniq (p.trans (sortM_perm es).symm) s (sortM_strict ((p.map (·.1)).nodup_iff.mp (strict_nodup s)))
theorem sortM_id {es : List (List Int × Vl)} (s : (es.map (·.1)).Pairwise (fun x y => HT.lexLt x y = true)) : sortM es = es := (sortM_uniq (List.Perm.refl es) s).symm
def Bs.putv (st : Bs) (v : Vl) : Bs := match st.fs with
  | [] => ⟨[], some v⟩
  | f :: r => ⟨⟨f.m, f.k, f.ins ++ [(if f.m then f.k.getD [] else [], v)]⟩ :: r, st.val⟩
def Pf.built (f : Pf) : Vl := if f.m then .mp (sortM f.ins) else .ls (f.ins.map (·.2))
def Bs.step (st : Bs) : Ev → Bs
  | .op m => ⟨⟨m, none, []⟩ :: st.fs, st.val⟩
  | .ky k => match st.fs with
    | [] => st
    | f :: r => ⟨⟨f.m, some k, f.ins⟩ :: r, st.val⟩
  | .lf k r => st.putv (.lf k r)
  | .cl => match st.fs with
    | [] => st
    | f :: r => (Bs.mk r st.val).putv f.built
def Bs.ready (st : Bs) : Prop := ∀ f r, st.fs = f :: r → (f.m = true → ∃ k, f.k = some k) ∧ f.ins.length ≤ 900
def Bs.valid (st : Bs) : Ev → Prop
  | .op _ => st.fs.length ≤ 900
  | .ky _ => ∃ f r, st.fs = f :: r
  | .lf _ _ => st.ready
  | .cl => ∃ f r, st.fs = f :: r ∧ (f.m = true → (f.ins.map (·.1)).Nodup) ∧ f.ins.length ≤ 900 ∧ (Bs.mk r st.val).ready
/-! ### .. and where it stands -/
structure Cf where
  a : Addr
  l : Addr
  f : Pf
def FmAt (K : Frg) (H : Hp) (c : Cf) : Prop := ∃ key vs, FrAt K H c.a c.l (kindOf_ c.f.m) key vs ∧ (∀ k, c.f.k = some k → ∃ q, key = .ref q ∧ H q = some (.tup (k.map V.int))) ∧
  (c.f.m = true → ∃ es : List (Ent × Vl), vs = es.map (fun e => V.ref e.1.t) ∧ (∀ e ∈ es, EdAt H e) ∧ c.f.ins = es.map pr) ∧ (c.f.m = false → TpAll H vs (datL (c.f.ins.map (·.2))))
theorem FmAt.keep {K : Frg} {H H' : Hp} {c : Cf} (h : FmAt K H c) (ha : ∀ u, H c.a = some u → H' c.a = some u) (hl : ∀ u, H c.l = some u → H' c.l = some u) (tk : Tk H H') : FmAt K H' c := by
  obtain ⟨key, vs, ⟨dx, h1, h2⟩, h3, h4, h5⟩ := h
  refine ⟨key, vs, ⟨dx, ha _ h1, hl _ h2⟩, fun k e => ?_, fun e => ?_, fun e => TpAll.tk tk _ _ (h5 e)⟩
  · obtain ⟨q, e1, e2⟩ := h3 k e
    exact ⟨q, e1, tk _ _ e2⟩
  · obtain ⟨es, e1, e2, e3⟩ := h4 e
    exact ⟨es, e1, fun x hx => (e2 x hx).tk tk, e3⟩
def ownC (cs : List Cf) : List Addr := cs.flatMap fun c => [c.a, c.l]
def own (b fl : Addr) (cs : List Cf) : List Addr := b :: fl :: ownC cs
theorem ownC_mem {cs : List Cf} {c : Cf} (h : c ∈ cs) : c.a ∈ ownC cs ∧ c.l ∈ ownC cs := ⟨List.mem_flatMap.mpr ⟨c, h, by simp⟩, List.mem_flatMap.mpr ⟨c, h, by simp⟩⟩
def ValAt (H : Hp) (v : V) : Option Vl → Prop
  | none => v = .non
  | some t => Tp H v t.dat
theorem ValAt.tk {H H' : Hp} {v : V} (k : Tk H H') : ∀ {o : Option Vl}, ValAt H v o → ValAt H' v o
  | none, h => h
  | some t, h => Tp.tk k _ _ h
structure BAt (K : Frg) (H : Hp) (b fl : Addr) (st : Bs) (cs : List Cf) : Prop where
  bu : ∃ dx v, H b = some (.ins (C_Builder K) dx (fs_Builder (.bl st.val.isSome) v (.ref fl))) ∧ ValAt H v st.val
  li : H fl = some (.lst (cs.reverse.map fun c => V.ref c.a))
  fs : cs.map (·.f) = st.fs
  at_ : ∀ c ∈ cs, FmAt K H c
  nd : (own b fl cs).Nodup
/-- all that is not one's own stays -/
def Ow (o : List Addr) (H H' : Hp) : Prop := ∀ x u, x ∉ o → H x = some u → H' x = some u
theorem Ow.trans {o : List Addr} {H H1 H2 : Hp} (x : Ow o H H1) (y : Ow o H1 H2) : Ow o H H2 := fun a u n h => y a u n (x a u n h)
theorem Ow.of {o : List Addr} {H H' : Hp} (s : Same H H') : Ow o H H' := fun a u _ h => s a u h
theorem BAt.same {K : Frg} {H H' : Hp} {b fl : Addr} {st : Bs} {cs : List Cf} (s : Same H H') (h : BAt K H b fl st cs) : BAt K H' b fl st cs := by
  obtain ⟨⟨dx, v, h1, h2⟩, h3, h4, h5, h6⟩ := h
  exact ⟨⟨dx, v, s _ _ h1, h2.tk (Same.tk s)⟩, s _ _ h3, h4, fun c hc => (h5 c hc).keep (fun u => s _ _) (fun u => s _ _) (Same.tk s), h6⟩
/-- another's work leaves it alone -/
theorem BAt.away {K : Frg} {H H' : Hp} {b fl : Addr} {st : Bs} {cs : List Cf} {o : List Addr} (h : BAt K H b fl st cs) (w : Ow o H H') (tk : Tk H H') (n : ∀ x ∈ own b fl cs, x ∉ o) : BAt K H' b fl st cs := by
  obtain ⟨⟨dx, v, h1, h2⟩, h3, h4, h5, h6⟩ := h
  have nc : ∀ c ∈ cs, c.a ∉ o ∧ c.l ∉ o := fun c hc => ⟨n _ (List.mem_cons_of_mem _ (List.mem_cons_of_mem _ (ownC_mem hc).1)), n _ (List.mem_cons_of_mem _ (List.mem_cons_of_mem _ (ownC_mem hc).2))⟩
  exact ⟨⟨dx, v, w _ _ (n _ (List.mem_cons_self ..)) h1, h2.tk tk⟩, w _ _ (n _ (List.mem_cons_of_mem _ (List.mem_cons_self ..))) h3, h4, fun c hc => (h5 c hc).keep (fun u => w _ _ (nc c hc).1) (fun u => w _ _ (nc c hc).2) tk, h6⟩



def sp_Builder___init__ (K : Frg) : Sp := sp1 fun p H Q _ => ∃ b dx, p = .ref b ∧ H b = some (.ins (C_Builder K) dx []) ∧ ∀ fl H', H fl = none → fl ≠ b → BAt K H' b fl ⟨[], none⟩ [] → (∀ x u, x ≠ b → H x = some u → H' x = some u) → Q .non H'
def sp_Builder__put (K : Frg) : Sp := sp2 fun p o H Q _ => ∃ b fl st cs t, p = .ref b ∧ BAt K H b fl st cs ∧ Tp H o t.dat ∧ st.ready ∧ st.val = none ∧ ∀ cs' H', BAt K H' b fl (st.putv t) cs' → own b fl cs' = own b fl cs → Ow (own b fl cs) H H' → Tk H H' → Q .non H'
def sp_Builder_take (K : Frg) : Sp := sp2 fun p o H Q _ => ∃ b fl st cs ev, p = .ref b ∧ BAt K H b fl st cs ∧ Tp H o (Ev.dat ev) ∧ st.valid ev ∧ st.val = none ∧ ∀ cs' H', BAt K H' b fl (st.step ev) cs' → (∀ x ∈ own b fl cs', x ∈ own b fl cs ∨ H x = none) → Ow (own b fl cs) H H' → Tk H H' → Q .non H'

theorem d_frame {K : Frg} {H : Hp} {R : Addr → Hp → Prop} {E : XK} {kind : Str} (h : ∀ a l H', H a = none → H l = none → l ≠ a → FrAt K H' a l kind .non [] → Same H H' → R a H') : ∀ x dx, H x = none → H dx = none → dx ≠ x → sp_Frame___init__ K (.ref x :: ([.str kind] ++ [])) (upd (upd H dx (.own x)) x (.ins (C_Frame K) dx [])) (fun v H2 => v = .non ∧ R x H2) E := by
  intro a dx ha hd hne
  refine ⟨_, _, rfl, a, dx, kind, rfl, rfl, upd_same, fun l H' hl hla hU g => ⟨rfl, ?_⟩⟩
  have hl0 : H l = none := by
    rw [upd_ne hla] at hl
    by_cases e : l = dx
    · rw [e] at hl ⊢
      exact hd
    · rw [upd_ne e] at hl
      exact hl
  refine h a l H' ha hl0 hla hU fun b u z => ?_
  have h1 : b ≠ a := fun e => by
    rw [e, ha] at z
    cases z
  have h2 : b ≠ dx := fun e => by
    rw [e, hd] at z
    cases z
  exact g b u h1 (by rw [upd_ne h1, upd_ne h2]; exact z)
theorem rev_map_cons (c : Cf) (cr : List Cf) : ((c :: cr).reverse.map fun c => V.ref c.a) = (cr.reverse.map fun c => V.ref c.a) ++ [V.ref c.a] := by
  rw [List.reverse_cons, List.map_append]
  rfl
theorem cs_cons {cs : List Cf} {f : Pf} {r : List Pf} (h : cs.map (·.f) = f :: r) : ∃ c cr, cs = c :: cr ∧ c.f = f ∧ cr.map (·.f) = r := by
  cases cs with
  | nil => cases h
  | cons c cr =>
    injection h with h1 h2
    exact ⟨c, cr, rfl, h1, h2⟩
theorem kind_map (m : Bool) : kindOf_ m = "map" ↔ m = true := by
  cases m with
  | true => exact ⟨fun _ => rfl, fun _ => rfl⟩
  | false => exact ⟨fun h => absurd h (by decide +kernel), fun h => by cases h⟩
theorem sub_own {b fl : Addr} {c : Cf} {cr : List Cf} : ∀ x ∈ own b fl cr, x ∈ own b fl (c :: cr) := fun x hx => by
  unfold own at hx ⊢
  rcases List.mem_cons.mp hx with e | hx
  · exact List.mem_cons.mpr (.inl e)
  · rcases List.mem_cons.mp hx with e | hx
    · exact List.mem_cons_of_mem _ (List.mem_cons.mpr (.inl e))
    · refine List.mem_cons_of_mem _ (List.mem_cons_of_mem _ ?_)
      show x ∈ [c.a, c.l] ++ ownC cr
      exact List.mem_append_right _ hx
section
variable {P : Program} {w : World} {K : PySem.W.Frag} {mg : Str → Option Value} {base : Heap} {f : Addr} {fd : FuncData}
theorem ok_Builder___init__ (F : FunD K "__init__" "Builder.__init__" (defArgs s_Builder___init__) (defBody s_Builder___init__) (defScope s_Builder___init__) [] [] (meAd "Builder" "__init__" K) fd) (nb : Nm w K mg) : Mak P w K mg base 1 "Builder" (C_Builder K) (sp_Builder___init__ K) [] := by
  refine makD F nb.mk_Builder nb.g_Builder sc_Builder___init__ (fun _ _ _ _ _ _ us hl => match us, hl with | [_], _ => rfl) len1 (fun cdv A outer s H vs Q E hr h => ⟨_, (pss_cons (ps_fld (pv 0) pe_bl rfl)
    (pss_cons (ps_fld (pv 0) pe_non rfl)
    (pss_one (ps_fld (pv 0) (pe_lst pa_nil) rfl)))), ?_⟩)
  obtain ⟨_, rfl, b, dx, rfl, hA, h⟩ := h
  walk_at "rd"
  refine r_fsetK hA nb.cl_Builder nb.na_Builder_is_done (by decide) (in_Builder_is_done) fun H1 hA1 f1 => ?_
  walk_at "rd"
  refine r_fsetK hA1 nb.cl_Builder nb.na_Builder_value (by simp) (in_Builder_value) fun H2 hA2 f2 => ?_
  walk_at "rd"
  refine ⟨Nat.zero_le _, fun l hl => ?_⟩
  have hne : l ≠ b := fun z => by rw [z, hA2] at hl; cases hl
  have hl0 : H l = none := by
    rw [f2 l hne, f1 l hne] at hl
    exact hl
  have hA3 : upd H2 l (.lst []) b = some _ := (upd_ne (Ne.symm hne)).trans hA2
  have hL3 : upd H2 l (.lst []) l = some (.lst []) := upd_same
  have f3 : ∀ x u, x ≠ b → H x = some u → upd H2 l (.lst []) x = some u := fun x u h1 h2 => same_upd hl _ x u (by rw [f2 x h1, f1 x h1]; exact h2)
  generalize upd H2 l (.lst []) = H3 at hA3 hL3 f3 ⊢
  walk_at "rd"
  refine r_fsetK hA3 nb.cl_Builder nb.na_Builder__frames (by simp) (in_Builder__frames) fun H4 hA4 f4 => ?_
  refine h l H4 hl0 hne ⟨⟨dx, .non, hA4, rfl⟩, by rw [f4 l hne]; exact hL3, rfl, fun c hc => absurd hc (by simp), ?_⟩ fun x u h1 h2 => by rw [f4 x h1]; exact f3 x u h1 h2
  show [b, l].Nodup
  rw [List.nodup_cons]
  exact ⟨by simpa using Ne.symm hne, by simp⟩
theorem ok_Builder__put (F : FunD K "_put" "Builder._put" (defArgs s_Builder__put) (defBody s_Builder__put) (defScope s_Builder__put) [] [] (meAd "Builder" "_put" K) fd) (nb : Nm w K mg) (m_Frame_put : Met P w K mg base 1 (C_Frame K) "put" (sp_Frame_put K) []) : Met P w K mg base 2 (C_Builder K) "_put" (sp_Builder__put K) [] := by
  refine metD F nb.cl_Builder nb.me_Builder__put sc_Builder__put (fun _ _ _ _ _ _ us hl => match us, hl with | [_, _], _ => rfl) len2 (fun cdv A outer s H vs Q E hr h => ⟨_, (pss_one (ps_if (pt_truth (pe_fld (pv 0) rfl) (by intro _; rfl))
    (pss_cons (ps_set (i := 2) sc_Builder__put.nd rfl (Or.inl rfl) (pe_ix ix_list (pe_fld (pv 0) rfl) (pe_un un_neg pe_int) (fun _ _ => rfl)))
    (pss_one (ps_expr (pe_mt m_Frame_put hr (by decide) (pv 2) (pa_cons (pv 1) pa_nil)))))
    (pss_cons (ps_fld (pv 0) (pv 1) rfl)
    (pss_one (ps_fld (pv 0) pe_bl rfl))))), ?_⟩)
  obtain ⟨_, v, rfl, b, fl, st, cs, t, rfl, B, tp, rdy, hval, h⟩ := h
  obtain ⟨⟨dx, bv, hb, hbv⟩, hli, hfs, hat, hnd⟩ := id B
  have hfb : fl ≠ b := fun e => by
    have := hnd
    unfold own at this
    rw [List.nodup_cons] at this
    exact this.1 (by rw [e]; exact List.mem_cons_self ..)
  walk_at "rd"
  refine r_fget hb nb.cl_Builder nb.na_Builder__frames lk_Builder__frames ?_
  cases hst : st.fs with
  | nil =>
    rw [hst] at hfs
    obtain rfl : cs = [] := List.map_eq_nil_iff.mp hfs
    refine ⟨false, .inl ⟨_, SqL.of hli, rfl⟩, ?_⟩
    walk_at "rd"
    refine r_fsetK hb nb.cl_Builder nb.na_Builder_value (few_Builder) pt_Builder_value fun H1 hA1 f1 => ?_
    walk_at "rd"
    refine r_fsetK hA1 nb.cl_Builder nb.na_Builder_is_done (few_Builder) pt_Builder_is_done fun H2 hA2 f2 => ?_
    have tk : Tk H H2 := fun x ys hx => by
      have n : x ≠ b := fun e => by rw [e, hb] at hx; cases hx
      rw [f2 x n, f1 x n]
      exact hx
    have e : st.putv t = ⟨[], some t⟩ := by
      unfold Bs.putv
      rw [hst]
    rw [e] at h
    refine h [] H2 ⟨⟨dx, v, hA2, Tp.tk tk _ _ tp⟩, by rw [f2 fl hfb, f1 fl hfb]; exact hli, rfl, fun c hc => absurd hc (by simp), hnd⟩ rfl (fun x u n hx => ?_) tk
    have n : x ≠ b := fun e => n (by rw [e]; exact List.mem_cons_self ..)
    rw [f2 x n, f1 x n]
    exact hx
  | cons pf r =>
    rw [hst] at hfs
    obtain ⟨c, cr, rfl, rfl, rfl⟩ := cs_cons hfs
    rw [rev_map_cons] at hli
    refine ⟨true, .inl ⟨_, SqL.of hli, by simp⟩, ?_⟩
    walk_at "rd"
    refine r_fget hb nb.cl_Builder nb.na_Builder__frames lk_Builder__frames ?_
    walk_at "rd"
    refine r_ixL (SqL.of hli) (atI_last _ _) ?_
    walk_at "rd"
    obtain ⟨key, vs, hF, hk, hmp, hls⟩ := hat c (List.mem_cons_self ..)
    obtain ⟨dxc, hca, hcl⟩ := id hF
    obtain ⟨rk, rl⟩ := rdy c.f _ hst
    have hvl : vs.length ≤ 900 := by
      cases hm : c.f.m with
      | true =>
        obtain ⟨es, e1, e2, e3⟩ := hmp hm
        rw [e1, List.length_map]
        rw [e3, List.length_map] at rl
        exact rl
      | false =>
        have q := tpAll_len (hls hm)
        rw [datL_map, List.length_map, List.length_map] at q
        rw [q]
        exact rl
    -- apart from the top's own list
    have ndc : c.l ∉ b :: fl :: ownC cr ∧ c.l ≠ c.a := by
      have q : (b :: fl :: c.a :: c.l :: ownC cr).Nodup := hnd
      simp only [List.nodup_cons, List.mem_cons, not_or] at q ⊢
      obtain ⟨⟨q1, q2, q3, q4⟩, ⟨q5, q6, q7⟩, ⟨q8, q9⟩, q10, q11⟩ := q
      exact ⟨⟨Ne.symm q3, Ne.symm q6, q10⟩, Ne.symm q8⟩
    obtain ⟨ndl, ndla⟩ := ndc
    simp only [List.mem_cons, not_or] at ndl
    obtain ⟨nlb, nlf, nlr⟩ := ndl
    have e : st.putv t = ⟨⟨c.f.m, c.f.k, c.f.ins ++ [(if c.f.m then c.f.k.getD [] else [], t)]⟩ :: cr.map (·.f), st.val⟩ := by
      unfold Bs.putv
      rw [hst]
    rw [e] at h
    have fin : ∀ (H' : Hp) (vs' : List V), FrAt K H' c.a c.l (kindOf_ c.f.m) key vs' → Bt c.l H H' → (c.f.m = true → ∃ es : List (Ent × Vl), vs' = es.map (fun e => V.ref e.1.t) ∧ (∀ e ∈ es, EdAt H' e) ∧ c.f.ins ++ [(if c.f.m then c.f.k.getD [] else [], t)] = es.map pr) → (c.f.m = false → TpAll H' vs' (datL ((c.f.ins ++ [(if c.f.m then c.f.k.getD [] else [], t)]).map (·.2)))) → Q .non H' := fun H' vs' g1 g2 g3 g4 => by
      have tk : Tk H H' := Bt.tk hcl g2
      refine h (⟨c.a, c.l, ⟨c.f.m, c.f.k, c.f.ins ++ [(if c.f.m then c.f.k.getD [] else [], t)]⟩⟩ :: cr) H' ⟨⟨dx, bv, g2 _ _ (Ne.symm nlb) hb, hbv.tk tk⟩, ?_, rfl, fun x hx => ?_, hnd⟩ rfl (fun x u n hx => g2 x u (fun z => n ?_) hx) tk
      · rw [rev_map_cons]
        exact g2 _ _ (Ne.symm nlf) hli
      · rcases List.mem_cons.mp hx with q | q
        · subst q
          refine ⟨key, vs', g1, fun k ek => ?_, g3, g4⟩
          obtain ⟨q, e1, e2⟩ := hk k ek
          exact ⟨q, e1, tk _ _ e2⟩
        · obtain ⟨m1, m2⟩ := ownC_mem q
          exact (hat x (List.mem_cons_of_mem _ q)).keep (fun u => g2 _ u fun z => nlr (z ▸ m1)) (fun u => g2 _ u fun z => nlr (z ▸ m2)) tk
      · rw [z]
        show c.l ∈ own b fl (c :: cr)
        exact List.mem_cons_of_mem _ (List.mem_cons_of_mem _ (ownC_mem (List.mem_cons_self ..)).2)
    refine r_mget hca no_Frame_put ?_
    walk_at "rd"
    refine ⟨_, _, rfl, c.a, c.l, kindOf_ c.f.m, key, vs, rfl, hF, by omega, fun hkm T H' nT gT g1 g2 => ?_, fun hkm H' g1 g2 => ?_⟩
    · have hm := (kind_map c.f.m).mp hkm
      obtain ⟨es, e1, e2, e3⟩ := hmp hm
      obtain ⟨kk, ek⟩ := rk hm
      obtain ⟨q, rfl, hq⟩ := hk kk ek
      obtain ⟨u, rfl⟩ := vl_ref tp
      have tk : Tk H H' := Bt.tk hcl g2
      refine fin H' _ g1 g2 (fun _ => ⟨es ++ [(⟨T, q, u, kk⟩, t)], ?_, fun x hx => ?_, ?_⟩) (fun z => absurd (hm.symm.trans z) (by decide))
      · rw [e1, List.map_append]
        rfl
      · rcases List.mem_append.mp hx with p | p
        · exact (e2 x p).tk tk
        · have e5 : x = (⟨T, q, u, kk⟩, t) := by simpa using p
          subst e5
          exact ⟨⟨gT, tk _ _ hq⟩, Tp.tk tk _ _ tp⟩
      · rw [e3, List.map_append, hm, ek]
        rfl
    · have hm : c.f.m = false := by
        cases hm : c.f.m with
        | true => exact absurd ((kind_map c.f.m).mpr hm) hkm
        | false => rfl
      have tk : Tk H H' := Bt.tk hcl g2
      refine fin H' _ g1 g2 (fun z => absurd (hm.symm.trans z) (by decide)) fun _ => ?_
      rw [List.map_append, datL_app]
      exact tpAll_app (TpAll.tk tk _ _ (hls hm)) (.cons (Tp.tk tk _ _ tp) .nil)
end

theorem mem_own {b fl : Addr} {cs : List Cf} {x : Addr} : x ∈ own b fl cs ↔ x = b ∨ x = fl ∨ x ∈ ownC cs := by
  unfold own
  rw [List.mem_cons, List.mem_cons]
theorem mem_ownC {c : Cf} {cr : List Cf} {x : Addr} : x ∈ ownC (c :: cr) ↔ x = c.a ∨ x = c.l ∨ x ∈ ownC cr := by
  show x ∈ c.a :: c.l :: ownC cr ↔ _
  rw [List.mem_cons, List.mem_cons]
theorem tp_ev1 {H : Hp} {v : V} {k : Str} {d : PyData} (h : Tp H v (.tuple [.str k, d])) : ∃ T u, v = .ref T ∧ H T = some (.tup [.str k, u]) ∧ Tp H u d := by
  obtain ⟨T, vs, rfl, h1, h2⟩ := tp_tup h
  cases h2 with
  | cons x1 x2 =>
    cases x1
    cases x2 with
    | cons y1 y2 =>
      cases y2
      exact ⟨T, _, rfl, h1, y1⟩
theorem FmAt.live {K : Frg} {H : Hp} {c : Cf} (h : FmAt K H c) : (∃ u, H c.a = some u) ∧ ∃ u, H c.l = some u := by
  obtain ⟨key, vs, ⟨dx, h1, h2⟩, _⟩ := h
  exact ⟨⟨_, h1⟩, _, h2⟩
theorem BAt.live {K : Frg} {H : Hp} {b fl : Addr} {st : Bs} {cs : List Cf} (B : BAt K H b fl st cs) : ∀ x ∈ own b fl cs, ∃ u, H x = some u := by
  intro x hx
  obtain ⟨⟨dx, v, h1, h2⟩, h3, h4, h5, h6⟩ := B
  rcases mem_own.mp hx with e | e | e
  · rw [e]
    exact ⟨_, h1⟩
  · rw [e]
    exact ⟨_, h3⟩
  · obtain ⟨c, hc, q⟩ := List.mem_flatMap.mp e
    obtain ⟨l1, l2⟩ := (h5 c hc).live
    rcases List.mem_cons.mp q with q | q
    · rw [q]
      exact l1
    · have q : x = c.l := by simpa using q
      rw [q]
      exact l2
section
variable {P : Program} {w : World} {K : PySem.W.Frag} {mg : Str → Option Value} {base : Heap} {f : Addr} {fd : FuncData}
theorem ok_Builder_take (F : FunD K "take" "Builder.take" (defArgs s_Builder_take) (defBody s_Builder_take) (defScope s_Builder_take) [] [] (meAd "Builder" "take" K) fd) (nb : Nm w K mg) (k_Frame : Mak P w K mg base 1 "Frame" (C_Frame K) (sp_Frame___init__ K) []) (m_Frame_built : Met P w K mg base 2 (C_Frame K) "built" (sp_Frame_built K) []) (m_Builder__put : Met P w K mg base 2 (C_Builder K) "_put" (sp_Builder__put K) []) : Met P w K mg base 3 (C_Builder K) "take" (sp_Builder_take K) [] := by
  refine metD F nb.cl_Builder nb.me_Builder_take sc_Builder_take (fun _ _ _ _ _ _ us hl => match us, hl with | [_, _], _ => rfl) len2 (fun cdv A outer s H vs Q E hr h => ⟨_, (pss_one (ps_if (pt_cmpR op_eq (pe_ix ix_tup (pv 1) pe_int (fun _ _ => rfl)) pe_str (nomark _))
    (pss_one (ps_expr (pe_bm PySem.F.plainAttrs_list PySem.F.slot_list_append PySem.F.type_list_append mt_append (pe_fld (pv 0) rfl) (pa_cons (pe_mk k_Frame hr (by decide) rfl (pa_cons (pe_ix ix_tup (pv 1) pe_int (fun _ _ => rfl)) pa_nil)) pa_nil))))
    (pss_one (ps_if (pt_cmpR op_eq (pe_ix ix_tup (pv 1) pe_int (fun _ _ => rfl)) pe_str (nomark _))
    (pss_cons (ps_set (i := 2) sc_Builder_take.nd rfl (Or.inl rfl) (pe_ix ix_list (pe_fld (pv 0) rfl) (pe_un un_neg pe_int) (fun _ _ => rfl)))
    (pss_one (ps_fld (pv 2) (pe_ix ix_tup (pv 1) pe_int (fun _ _ => rfl)) rfl)))
    (pss_one (ps_if (pt_cmpR op_eq (pe_ix ix_tup (pv 1) pe_int (fun _ _ => rfl)) pe_str (nomark _))
    (pss_one (ps_expr (pe_mt m_Builder__put hr (by decide) (pv 0) (pa_cons (pe_ix ix_tup (pv 1) pe_int (fun _ _ => rfl)) pa_nil))))
    (pss_cons (ps_set (i := 2) sc_Builder_take.nd rfl (Or.inl rfl) (pe_bm0 PySem.F.plainAttrs_list PySem.F.slot_list_pop PySem.F.type_list_pop mt_pop (pe_fld (pv 0) rfl)))
    (pss_one (ps_expr (pe_mt m_Builder__put hr (by decide) (pv 0) (pa_cons (pe_mt0 m_Frame_built hr (by decide) (pv 2)) pa_nil))))))))))), ?_⟩)
  obtain ⟨_, v, rfl, b, fl, st, cs, ev, rfl, B, tp, val, hval, h⟩ := h
  obtain ⟨⟨dx, bv, hb, hbv⟩, hli, hfs, hat, hnd⟩ := id B
  have bfl : b ≠ fl := fun e => by
    have q : (b :: fl :: ownC cs).Nodup := hnd
    rw [List.nodup_cons] at q
    exact q.1 (by rw [e]; exact List.mem_cons_self ..)
  have flo : fl ∉ ownC cs := by
    have q : (b :: fl :: ownC cs).Nodup := hnd
    rw [List.nodup_cons, List.nodup_cons] at q
    exact q.2.1
  have bo : b ∉ ownC cs := by
    have q : (b :: fl :: ownC cs).Nodup := hnd
    rw [List.nodup_cons] at q
    exact fun z => q.1 (List.mem_cons_of_mem _ z)
  cases ev with
  | op m =>
    obtain ⟨T, u, rfl, hT, hu⟩ := tp_ev1 (show Tp H v (.tuple [.str "open", .str (kindOf_ m)]) from tp)
    obtain rfl : u = .str (kindOf_ m) := by
      cases hu
      rfl
    have val : st.fs.length ≤ 900 := val
    walk_at "rd"
    refine r_ixT (SqT.of hT) at0 ?_
    walk_at "rd"
    refine r_itep rfl ?_
    walk_at "rd"
    refine r_fget hb nb.cl_Builder nb.na_Builder__frames lk_Builder__frames ?_
    refine ⟨tyL hli, ?_⟩
    walk_at "rd"
    refine r_ixT (SqT.of hT) rfl ?_
    walk_at "rd"
    refine d_frame fun a l H1 na nl la hF s1 => ?_
    have hli1 := s1 _ _ hli
    walk_at "rd"
    have hl0 : (cs.reverse.map fun c => V.ref c.a).length ≤ 900 := by
      rw [List.length_map, List.length_reverse]
      have q := congrArg List.length hfs
      rw [List.length_map] at q
      omega
    refine r_appK hli1 (small1000 (by omega)) fun H2 hL2 f2 => ?_
    have naf : a ≠ fl := fun e => by rw [e, hli] at na; cases na
    have nlf : l ≠ fl := fun e => by rw [e, hli] at nl; cases nl
    have tk : Tk H H2 := fun x ys hx => by
      have n : x ≠ fl := fun e => by rw [e, hli] at hx; cases hx
      rw [f2 x n]
      exact s1 _ _ hx
    obtain ⟨dxf, hFa, hFl⟩ := hF
    have lv := B.live
    have nao : a ∉ own b fl cs := fun z => by
      obtain ⟨u, q⟩ := lv a z
      rw [na] at q
      cases q
    have nlo : l ∉ own b fl cs := fun z => by
      obtain ⟨u, q⟩ := lv l z
      rw [nl] at q
      cases q
    refine h (⟨a, l, ⟨m, none, []⟩⟩ :: cs) H2 ⟨⟨dx, bv, by rw [f2 b bfl]; exact s1 _ _ hb, hbv.tk tk⟩, ?_, ?_, fun c hc => ?_, ?_⟩ (fun x hx => ?_) (fun x u n hx => ?_) tk
    · rw [hL2, rev_map_cons]
    · rw [List.map_cons, hfs]
      rfl
    · rcases List.mem_cons.mp hc with q | q
      · subst q
        refine ⟨.non, [], ⟨dxf, by rw [f2 a naf]; exact hFa, by rw [f2 l nlf]; exact hFl⟩, fun k e => (by cases e), fun _ => ⟨[], rfl, fun _ h => absurd h (by simp), rfl⟩, fun _ => .nil⟩
      · obtain ⟨m1, m2⟩ := ownC_mem q
        exact (hat c q).keep (fun u z => by rw [f2 _ (fun e => flo (e ▸ m1))]; exact s1 _ _ z) (fun u z => by rw [f2 _ (fun e => flo (e ▸ m2))]; exact s1 _ _ z) tk
    · show (b :: fl :: a :: l :: ownC cs).Nodup
      have q : (b :: fl :: ownC cs).Nodup := hnd
      simp only [own, List.mem_cons, not_or] at nao nlo
      simp only [List.nodup_cons, List.mem_cons, not_or] at q ⊢
      exact ⟨⟨bfl, Ne.symm nao.1, Ne.symm nlo.1, bo⟩, ⟨Ne.symm nao.2.1, Ne.symm nlo.2.1, flo⟩, ⟨Ne.symm la, nao.2.2⟩, nlo.2.2, q.2.2⟩
    · rcases mem_own.mp hx with q | q | q
      · exact .inl (mem_own.mpr (.inl q))
      · exact .inl (mem_own.mpr (.inr (.inl q)))
      · rcases mem_ownC.mp q with q | q | q
        · exact .inr (by rw [q]; exact na)
        · exact .inr (by rw [q]; exact nl)
        · exact .inl (mem_own.mpr (.inr (.inr q)))
    · have n1 : x ≠ fl := fun e => n (mem_own.mpr (.inr (.inl e)))
      rw [f2 x n1]
      exact s1 _ _ hx
  | ky k =>
    obtain ⟨T, u, rfl, hT, hu⟩ := tp_ev1 (show Tp H v (.tuple [.str "key", kd k]) from tp)
    obtain ⟨q, rfl, hq⟩ := tp_kdB hu
    obtain ⟨pf, r, hst⟩ := val
    rw [hst] at hfs
    obtain ⟨c, cr, rfl, rfl, rfl⟩ := cs_cons hfs
    rw [rev_map_cons] at hli
    walk_at "rd"
    refine r_ixT (SqT.of hT) at0 ?_
    walk_at "rd"
    refine r_iteN (by decide +kernel) ?_
    walk_at "rd"
    refine r_ixT (SqT.of hT) at0 ?_
    walk_at "rd"
    refine r_itep rfl ?_
    walk_at "rd"
    refine r_fget hb nb.cl_Builder nb.na_Builder__frames lk_Builder__frames ?_
    walk_at "rd"
    refine r_ixL (SqL.of hli) (atI_last _ _) ?_
    walk_at "rd"
    refine r_ixT (SqT.of hT) rfl ?_
    walk_at "rd"
    obtain ⟨key, vs, ⟨dxc, hca, hcl⟩, hk, hmp, hls⟩ := hat c (List.mem_cons_self ..)
    refine r_fsetK hca nb.cl_Frame nb.na_Frame_key (few_Frame) pt_Frame_key fun H1 hA1 f1 => ?_
    have tk : Tk H H1 := fun x ys hx => by
      have n : x ≠ c.a := fun e => by rw [e, hca] at hx; cases hx
      rw [f1 x n]
      exact hx
    have nd2 : c.a ≠ b ∧ c.a ≠ fl ∧ c.a ≠ c.l ∧ c.a ∉ ownC cr := by
      have q : (b :: fl :: c.a :: c.l :: ownC cr).Nodup := hnd
      simp only [List.nodup_cons, List.mem_cons, not_or] at q
      obtain ⟨⟨q1, q2, q3, q4⟩, ⟨q5, q6, q7⟩, ⟨q8, q9⟩, q10, q11⟩ := q
      exact ⟨Ne.symm q2, Ne.symm q5, q8, q9⟩
    obtain ⟨nab, naf, nal, nar⟩ := nd2
    have e : st.step (.ky k) = ⟨⟨c.f.m, some k, c.f.ins⟩ :: cr.map (·.f), st.val⟩ := by
      show (match st.fs with | [] => st | f :: r => ⟨⟨f.m, some k, f.ins⟩ :: r, st.val⟩) = _
      rw [hst]
    rw [e] at h
    refine h (⟨c.a, c.l, ⟨c.f.m, some k, c.f.ins⟩⟩ :: cr) H1 ⟨⟨dx, bv, by rw [f1 b (Ne.symm nab)]; exact hb, hbv.tk tk⟩, ?_, rfl, fun x hx => ?_, hnd⟩ (fun x hx => .inl hx) (fun x u n hx => ?_) tk
    · rw [rev_map_cons, f1 fl (Ne.symm naf)]
      exact hli
    · rcases List.mem_cons.mp hx with p | p
      · subst p
        refine ⟨.ref q, vs, ⟨dxc, hA1, by rw [f1 c.l (Ne.symm nal)]; exact hcl⟩, fun k' e => ?_, fun e => ?_, fun e => TpAll.tk tk _ _ (hls e)⟩
        · have e : some k = some k' := e
          cases e
          exact ⟨q, rfl, tk _ _ hq⟩
        · obtain ⟨es, e1, e2, e3⟩ := hmp e
          exact ⟨es, e1, fun y hy => (e2 y hy).tk tk, e3⟩
      · obtain ⟨m1, m2⟩ := ownC_mem p
        exact (hat x (List.mem_cons_of_mem _ p)).keep (fun u z => by rw [f1 _ (fun e => nar (e ▸ m1))]; exact z) (fun u z => by rw [f1 _ (fun e => nar (e ▸ m2))]; exact z) tk
    · have n1 : x ≠ c.a := fun e => n (mem_own.mpr (.inr (.inr (mem_ownC.mpr (.inl e)))))
      rw [f1 x n1]
      exact hx
  | lf k r =>
    obtain ⟨T, u, rfl, hT, hu⟩ := tp_ev1 (show Tp H v (.tuple [.str "leaf", .tuple (.str k :: r)]) from tp)
    walk_at "rd"
    refine r_ixT (SqT.of hT) at0 ?_
    walk_at "rd"
    refine r_iteN (by decide +kernel) ?_
    walk_at "rd"
    refine r_ixT (SqT.of hT) at0 ?_
    walk_at "rd"
    refine r_iteN (by decide +kernel) ?_
    walk_at "rd"
    refine r_ixT (SqT.of hT) at0 ?_
    walk_at "rd"
    refine r_itep rfl ?_
    walk_at "rd"
    refine r_mget hb no_Builder__put ?_
    walk_at "rd"
    refine r_ixT (SqT.of hT) rfl ?_
    refine ⟨_, _, rfl, b, fl, st, cs, .lf k r, rfl, B, hu, val, hval, fun cs' H' B' eo w tk => ?_⟩
    exact h cs' H' B' (fun x hx => .inl (by rw [← eo]; exact hx)) w tk
  | cl =>
    obtain ⟨T, ws, rfl, hT, hw⟩ := tp_tup (show Tp H v (.tuple [.str "close"]) from tp)
    have hT : H T = some (.tup [.str "close"]) := by
      cases hw with
      | cons x1 x2 =>
        cases x1
        cases x2
        exact hT
    obtain ⟨pf, r, hst, hnk, hil, rdy⟩ := val
    rw [hst] at hfs
    obtain ⟨c, cr, rfl, rfl, rfl⟩ := cs_cons hfs
    rw [rev_map_cons] at hli
    walk_at "rd"
    refine r_ixT (SqT.of hT) at0 ?_
    walk_at "rd"
    refine r_iteN (by decide +kernel) ?_
    walk_at "rd"
    refine r_ixT (SqT.of hT) at0 ?_
    walk_at "rd"
    refine r_iteN (by decide +kernel) ?_
    walk_at "rd"
    refine r_ixT (SqT.of hT) at0 ?_
    walk_at "rd"
    refine r_iteN (by decide +kernel) ?_
    walk_at "rd"
    refine r_fget hb nb.cl_Builder nb.na_Builder__frames lk_Builder__frames ?_
    refine ⟨tyL hli, ?_⟩
    refine ⟨fl, _, .ref c.a, rfl, rfl, hli, by simp, ?_⟩
    rw [List.dropLast_concat]
    have tk1 : Tk H (upd H fl (.lst (cr.reverse.map fun c => V.ref c.a))) := tk_put hli
    have f1 : ∀ x, x ≠ fl → upd H fl (.lst (cr.reverse.map fun c => V.ref c.a)) x = H x := fun x n => upd_ne n
    have hl1 : upd H fl (.lst (cr.reverse.map fun c => V.ref c.a)) fl = some (.lst (cr.reverse.map fun c => V.ref c.a)) := upd_same
    generalize upd H fl (.lst (cr.reverse.map fun c => V.ref c.a)) = H1 at tk1 f1 hl1 ⊢
    have flo' : fl ∉ ownC cr ∧ fl ≠ c.a ∧ fl ≠ c.l := by
      refine ⟨fun z => flo (mem_ownC.mpr (.inr (.inr z))), fun z => flo (mem_ownC.mpr (.inl z)), fun z => flo (mem_ownC.mpr (.inr (.inl z)))⟩
    obtain ⟨fl1, fl2, fl3⟩ := flo'
    have B1 : BAt K H1 b fl ⟨cr.map (·.f), st.val⟩ cr := by
      refine ⟨⟨dx, bv, by rw [f1 b bfl]; exact hb, hbv.tk tk1⟩, hl1, rfl, fun x hx => ?_, ?_⟩
      · obtain ⟨m1, m2⟩ := ownC_mem hx
        exact (hat x (List.mem_cons_of_mem _ hx)).keep (fun u z => by rw [f1 _ (fun e => fl1 (e ▸ m1))]; exact z) (fun u z => by rw [f1 _ (fun e => fl1 (e ▸ m2))]; exact z) tk1
      · have q : (b :: fl :: c.a :: c.l :: ownC cr).Nodup := hnd
        show (b :: fl :: ownC cr).Nodup
        simp only [List.nodup_cons, List.mem_cons, not_or] at q ⊢
        obtain ⟨⟨q1, q2, q3, q4⟩, ⟨q5, q6, q7⟩, ⟨q8, q9⟩, q10, q11⟩ := q
        exact ⟨⟨q1, q4⟩, q7, q11⟩
    have hFc := (hat c (List.mem_cons_self ..)).keep (fun u z => by rw [f1 _ (Ne.symm fl2)]; exact z) (fun u z => by rw [f1 _ (Ne.symm fl3)]; exact z) tk1
    obtain ⟨key, vs, hF, hk, hmp, hls⟩ := hFc
    obtain ⟨dxc, hca, hcl⟩ := id hF
    have e : st.step .cl = (Bs.mk (cr.map (·.f)) st.val).putv c.f.built := by
      show (match st.fs with | [] => st | f :: r => (Bs.mk r st.val).putv f.built) = _
      rw [hst]
    rw [e] at h
    walk_at "rd"
    obtain ⟨dx1, bv1, hb1, _⟩ := B1.bu
    refine r_mget hb1 no_Builder__put ?_
    walk_at "rd"
    refine r_mget hca no_Frame_built ?_
    have ow1 : Ow (own b fl (c :: cr)) H H1 := fun x u n hx => by
      rw [f1 x (fun z => n (mem_own.mpr (.inr (.inl z))))]
      exact hx
    refine ⟨_, rfl, c.a, c.l, kindOf_ c.f.m, key, vs, rfl, hF, fun hkm => ?_, fun hkm => ?_⟩
    · have hm := (kind_map c.f.m).mp hkm
      obtain ⟨es, e1, e2, e3⟩ := hmp hm
      have nk := hnk hm
      rw [e3, List.map_map] at nk
      refine ⟨es, e1, e2, nk, by rw [e3, List.length_map] at hil; omega, fun u zs H2 pz sz tu s2 => ?_⟩
      have ez : zs = sortM c.f.ins := by
        rw [e3]
        exact sortM_uniq pz sz
      have eb : c.f.built = .mp zs := by
        unfold Pf.built
        rw [if_pos hm, ez]
      walk_at "rd"
      refine ⟨_, _, rfl, b, fl, _, cr, .mp zs, rfl, B1.same s2, tu, rdy, hval, fun cs' H3 B3 eo w3 tk3 => ?_⟩
      rw [eb] at h
      walk_at "rd"
      refine h cs' H3 B3 (fun x hx => .inl (sub_own x (by rw [← eo]; exact hx))) ?_ ((tk1.trans (Same.tk s2)).trans tk3)
      exact (ow1.trans (Ow.of s2)).trans fun x u n hx => w3 x u (fun z => n (sub_own x z)) hx
    · have hm : c.f.m = false := by
        cases hm : c.f.m with
        | true => exact absurd ((kind_map c.f.m).mpr hm) hkm
        | false => rfl
      refine ⟨c.f.ins.map (·.2), hls hm, fun u H2 tu s2 => ?_⟩
      have eb : c.f.built = .ls (c.f.ins.map (·.2)) := by
        unfold Pf.built
        rw [if_neg (by rw [hm]; decide)]
      walk_at "rd"
      refine ⟨_, _, rfl, b, fl, _, cr, .ls (c.f.ins.map (·.2)), rfl, B1.same s2, tu, rdy, hval, fun cs' H3 B3 eo w3 tk3 => ?_⟩
      rw [eb] at h
      walk_at "rd"
      refine h cs' H3 B3 (fun x hx => .inl (sub_own x (by rw [← eo]; exact hx))) ?_ ((tk1.trans (Same.tk s2)).trans tk3)
      exact (ow1.trans (Ow.of s2)).trans fun x u n hx => w3 x u (fun z => n (sub_own x z)) hx
end

/-! ### a value's events build it -/
def Bs.okRun : Bs → List Ev → Prop
  | _, [] => True
  | st, e :: r => st.valid e ∧ st.val = none ∧ (st.step e).okRun r
def Bs.run (st : Bs) (es : List Ev) : Bs := es.foldl Bs.step st
def lastK (k : Option (List Int)) (es : List (List Int × Vl)) : Option (List Int) := es.foldl (fun _ e => some e.1) k
mutual
theorem evs_run : ∀ (n : Nat) (t : Vl), t.ok n → ∀ (st : Bs) (rest : List Ev), st.fs.length + n ≤ 900 → st.ready → st.val = none → (st.putv t).okRun rest → st.okRun (t.evs ++ rest) ∧ st.run (t.evs ++ rest) = (st.putv t).run rest
  | n, .lf k r, h, st, rest, hd, rdy, hv, hr => ⟨⟨rdy, hv, hr⟩, rfl⟩
  | 0, .ls xs, h, _, _, _, _, _, _ => h.elim
  | n + 1, .ls xs, h, st, rest, hd, rdy, hv, hr => by
    have e : (Vl.ls xs).evs ++ rest = .op false :: (evsL xs ++ (.cl :: rest)) := by
      show (Ev.op false :: (evsL xs ++ [Ev.cl])) ++ rest = _
      rw [List.cons_append, List.append_assoc]
      rfl
    rw [e]
    have hxl : xs.length ≤ 49 := h.1
    have cl2 : (Bs.mk (⟨false, none, [] ++ xs.map fun x => (([] : List Int), x)⟩ :: st.fs) st.val).okRun (.cl :: rest) ∧ (Bs.mk (⟨false, none, [] ++ xs.map fun x => (([] : List Int), x)⟩ :: st.fs) st.val).run (.cl :: rest) = (st.putv (.ls xs)).run rest := by
      have e2 : (Bs.mk (⟨false, none, [] ++ xs.map fun x => (([] : List Int), x)⟩ :: st.fs) st.val).step .cl = st.putv (.ls xs) := by
        show (Bs.mk st.fs st.val).putv (.ls ((([] : List (List Int × Vl)) ++ xs.map fun x => (([] : List Int), x)).map fun y : List Int × Vl => y.2)) = _
        rw [List.nil_append, List.map_map]
        have e3 : xs.map ((fun x : List Int × Vl => x.2) ∘ fun x : Vl => (([] : List Int), x)) = xs := by
          rw [show ((fun x : List Int × Vl => x.2) ∘ fun x : Vl => (([] : List Int), x)) = id from rfl, List.map_id]
        rw [e3]
      refine ⟨⟨⟨_, _, rfl, fun q => (by cases q), ?_, rdy⟩, hv, by rw [e2]; exact hr⟩, ?_⟩
      · show ([] ++ xs.map fun x => (([] : List Int), x)).length ≤ 900
        rw [List.nil_append, List.length_map]
        omega
      · show ((Bs.mk (⟨false, none, [] ++ xs.map fun x => (([] : List Int), x)⟩ :: st.fs) st.val).step .cl).run rest = _
        rw [e2]
    obtain ⟨q1, q2⟩ := evsL_run n xs h.2 ⟨false, none, []⟩ st.fs st.val (.cl :: rest) rfl (by omega) (by show 0 + _ ≤ 900; omega) hv cl2.1
    refine ⟨⟨by show st.fs.length ≤ 900; omega, hv, q1⟩, ?_⟩
    show (Bs.mk (⟨false, none, []⟩ :: st.fs) st.val).run _ = _
    rw [q2, cl2.2]
  | 0, .mp es, h, _, _, _, _, _, _ => h.elim
  | n + 1, .mp es, h, st, rest, hd, rdy, hv, hr => by
    have e : (Vl.mp es).evs ++ rest = .op true :: (evsM es ++ (.cl :: rest)) := by
      show (Ev.op true :: (evsM es ++ [Ev.cl])) ++ rest = _
      rw [List.cons_append, List.append_assoc]
      rfl
    rw [e]
    have hxl : es.length ≤ 49 := h.1
    have cl2 : (Bs.mk (⟨true, lastK none es, [] ++ es⟩ :: st.fs) st.val).okRun (.cl :: rest) ∧ (Bs.mk (⟨true, lastK none es, [] ++ es⟩ :: st.fs) st.val).run (.cl :: rest) = (st.putv (.mp es)).run rest := by
      have e2 : (Bs.mk (⟨true, lastK none es, [] ++ es⟩ :: st.fs) st.val).step .cl = st.putv (.mp es) := by
        show (Bs.mk st.fs st.val).putv (.mp (sortM ([] ++ es))) = _
        rw [List.nil_append, sortM_id h.2.1]
      refine ⟨⟨⟨_, _, rfl, fun _ => strict_nodup h.2.1, ?_, rdy⟩, hv, by rw [e2]; exact hr⟩, ?_⟩
      · show ([] ++ es).length ≤ 900
        rw [List.nil_append]
        omega
      · show ((Bs.mk (⟨true, lastK none es, [] ++ es⟩ :: st.fs) st.val).step .cl).run rest = _
        rw [e2]
    obtain ⟨q1, q2⟩ := evsM_run n es h.2.2.2 none [] st.fs st.val (.cl :: rest) (by omega) (by show 0 + _ ≤ 900; omega) hv cl2.1
    refine ⟨⟨by show st.fs.length ≤ 900; omega, hv, q1⟩, ?_⟩
    show (Bs.mk (⟨true, none, []⟩ :: st.fs) st.val).run _ = _
    rw [q2, cl2.2]
theorem evsL_run : ∀ (n : Nat) (xs : List Vl), vokL n xs → ∀ (f : Pf) (fs : List Pf) (val : Option Vl) (rest : List Ev), f.m = false → fs.length + 1 + n ≤ 900 → f.ins.length + xs.length ≤ 900 → val = none →
    (Bs.mk (⟨f.m, f.k, f.ins ++ xs.map fun x => (([] : List Int), x)⟩ :: fs) val).okRun rest → (Bs.mk (f :: fs) val).okRun (evsL xs ++ rest) ∧ (Bs.mk (f :: fs) val).run (evsL xs ++ rest) = (Bs.mk (⟨f.m, f.k, f.ins ++ xs.map fun x => (([] : List Int), x)⟩ :: fs) val).run rest
  | n, [], _, f, fs, val, rest, hm, hd, hl, hv, hr => by
    have e : f.ins ++ ([] : List Vl).map (fun x => (([] : List Int), x)) = f.ins := List.append_nil _
    rw [e] at hr ⊢
    exact ⟨hr, rfl⟩
  | n, x :: xs, h, f, fs, val, rest, hm, hd, hl, hv, hr => by
    have hl : f.ins.length + (xs.length + 1) ≤ 900 := hl
    have ep : (Bs.mk (f :: fs) val).putv x = Bs.mk (⟨f.m, f.k, f.ins ++ [(([] : List Int), x)]⟩ :: fs) val := by
      show Bs.mk (⟨f.m, f.k, f.ins ++ [(if f.m then f.k.getD [] else [], x)]⟩ :: fs) val = _
      rw [hm]
      rfl
    have e1 : f.ins ++ (x :: xs).map (fun x => (([] : List Int), x)) = (f.ins ++ [(([] : List Int), x)]) ++ xs.map fun x => (([] : List Int), x) := by
      rw [List.map_cons, List.append_assoc]
      rfl
    rw [e1] at hr ⊢
    obtain ⟨q1, q2⟩ := evsL_run n xs h.2 ⟨f.m, f.k, f.ins ++ [(([] : List Int), x)]⟩ fs val rest hm hd (by show (f.ins ++ [_]).length + _ ≤ 900; rw [List.length_append]; show _ + 1 + _ ≤ 900; omega) hv hr
    have e2 : evsL (x :: xs) ++ rest = x.evs ++ (evsL xs ++ rest) := by
      show (x.evs ++ evsL xs) ++ rest = _
      rw [List.append_assoc]
    rw [e2]
    obtain ⟨p1, p2⟩ := evs_run n x h.1 (Bs.mk (f :: fs) val) (evsL xs ++ rest) hd (fun f' r e => by
      cases e
      exact ⟨fun z => absurd (hm.symm.trans z) (by decide), by omega⟩) hv (by rw [ep]; exact q1)
    refine ⟨p1, ?_⟩
    rw [p2, ep, q2]
theorem evsM_run : ∀ (n : Nat) (es : List (List Int × Vl)), vokM n es → ∀ (k : Option (List Int)) (ins : List (List Int × Vl)) (fs : List Pf) (val : Option Vl) (rest : List Ev), fs.length + 1 + n ≤ 900 → ins.length + es.length ≤ 900 → val = none →
    (Bs.mk (⟨true, lastK k es, ins ++ es⟩ :: fs) val).okRun rest → (Bs.mk (⟨true, k, ins⟩ :: fs) val).okRun (evsM es ++ rest) ∧ (Bs.mk (⟨true, k, ins⟩ :: fs) val).run (evsM es ++ rest) = (Bs.mk (⟨true, lastK k es, ins ++ es⟩ :: fs) val).run rest
  | n, [], _, k, ins, fs, val, rest, hd, hl, hv, hr => by
    rw [List.append_nil] at hr ⊢
    exact ⟨hr, rfl⟩
  | n, (k0, x) :: es, h, k, ins, fs, val, rest, hd, hl, hv, hr => by
    have hl : ins.length + (es.length + 1) ≤ 900 := hl
    have ep : (Bs.mk (⟨true, some k0, ins⟩ :: fs) val).putv x = Bs.mk (⟨true, some k0, ins ++ [(k0, x)]⟩ :: fs) val := rfl
    have e1 : ins ++ (k0, x) :: es = (ins ++ [(k0, x)]) ++ es := by
      rw [List.append_assoc]
      rfl
    have e3 : lastK k ((k0, x) :: es) = lastK (some k0) es := rfl
    rw [e1, e3] at hr ⊢
    obtain ⟨q1, q2⟩ := evsM_run n es h.2 (some k0) (ins ++ [(k0, x)]) fs val rest hd (by rw [List.length_append]; show _ + 1 + _ ≤ 900; omega) hv hr
    have e2 : evsM ((k0, x) :: es) ++ rest = .ky k0 :: (x.evs ++ (evsM es ++ rest)) := by
      show (Ev.ky k0 :: (x.evs ++ evsM es)) ++ rest = _
      rw [List.cons_append, List.append_assoc]
    rw [e2]
    obtain ⟨p1, p2⟩ := evs_run n x h.1 (Bs.mk (⟨true, some k0, ins⟩ :: fs) val) (evsM es ++ rest) hd (fun f' r e => by
      cases e
      exact ⟨fun _ => ⟨k0, rfl⟩, by show ins.length ≤ 900; omega⟩) hv (by rw [ep]; exact q1)
    refine ⟨⟨⟨_, _, rfl⟩, hv, p1⟩, ?_⟩
    show (Bs.mk (⟨true, some k0, ins⟩ :: fs) val).run _ = _
    rw [p2, ep, q2]
end
theorem okRun_at : ∀ (es : List Ev) (st : Bs) (i : Nat) (e : Ev), st.okRun es → es[i]? = some e → (st.run (es.take i)).valid e ∧ (st.run (es.take i)).val = none
  | [], _, _, _, _, h => by simp at h
  | x :: es, st, 0, e, h, he => by
    cases (show some x = some e from he)
    exact ⟨h.1, h.2.1⟩
  | x :: es, st, i + 1, e, h, he => okRun_at es (st.step x) i e h.2.2 (by simpa using he)
theorem run_take {es : List Ev} {st : Bs} {i : Nat} {e : Ev} (h : es[i]? = some e) : st.run (es.take (i + 1)) = (st.run (es.take i)).step e := by
  unfold Bs.run
  rw [take_one h, List.foldl_append]
  rfl
theorem run_value {n : Nat} {t : Vl} (h : t.ok n) (hn : n ≤ 900) : (Bs.mk [] none).okRun t.evs ∧ (Bs.mk [] none).run t.evs = ⟨[], some t⟩ := by
  have q := evs_run n t h ⟨[], none⟩ [] (by show 0 + n ≤ 900; omega) (fun f r e => by cases e) rfl trivial
  rw [List.append_nil] at q
  exact q
theorem lay_op (m : Bool) : (Ev.op m).dat.canLay0 = true ∧ (Ev.op m).dat.depth ≤ 4 := by
  cases m <;> exact ⟨by decide +kernel, by decide +kernel⟩
theorem lay_cl : Ev.cl.dat.canLay0 = true ∧ Ev.cl.dat.depth ≤ 4 := ⟨by decide +kernel, by decide +kernel⟩
theorem lay_ky (k : List Int) : (Ev.ky k).dat.canLay0 = true ∧ (Ev.ky k).dat.depth ≤ 4 := by
  refine ⟨?_, ?_⟩
  · show (PyData.canLay0 (.str "key") && (PyData.canLay0 (kd k) && true)) = true
    rw [show PyData.canLay0 (.str "key") = true by decide +kernel, show PyData.canLay0 (kd k) = true from lay_kd k]
    rfl
  · have q := depth_kd1 k
    show max 0 (max (kd k).depth 0) + 1 ≤ 4
    omega
theorem lay_lfE {k : Str} {r : List PyData} (h : Lf k r) : (Ev.lf k r).dat.canLay0 = true ∧ (Ev.lf k r).dat.depth ≤ 4 := by
  obtain ⟨h1, h2, h3⟩ := lay_lf h
  refine ⟨?_, ?_⟩
  · show (PyData.canLay0 (.str "leaf") && ((PyData.canLay0 (.str k) && PyData.canLayAll0 r) && true)) = true
    rw [show PyData.canLay0 (.str "leaf") = true by decide +kernel, h1, h2]
    rfl
  · show max 0 (max (max 0 (PyData.depthAll r) + 1) 0) + 1 ≤ 4
    omega
def EvOk (e : Ev) : Prop := e.dat.canLay0 = true ∧ e.dat.depth ≤ 4
mutual
theorem evs_ok : ∀ (n : Nat) (t : Vl), t.ok n → ∀ e ∈ t.evs, EvOk e
  | n, .lf k r, h, e, he => by
    have e1 : e = .lf k r := by simpa using (show e ∈ [Ev.lf k r] from he)
    rw [e1]
    exact lay_lfE (show Lf k r by cases n <;> exact h)
  | 0, .ls xs, h, _, _ => h.elim
  | n + 1, .ls xs, h, e, he => by
    rcases List.mem_cons.mp (show e ∈ Ev.op false :: (evsL xs ++ [Ev.cl]) from he) with q | q
    · rw [q]
      exact lay_op false
    · rcases List.mem_append.mp q with q | q
      · exact evsL_ok n xs h.2 e q
      · have q : e = .cl := by simpa using q
        rw [q]
        exact lay_cl
  | 0, .mp es, h, _, _ => h.elim
  | n + 1, .mp es, h, e, he => by
    rcases List.mem_cons.mp (show e ∈ Ev.op true :: (evsM es ++ [Ev.cl]) from he) with q | q
    · rw [q]
      exact lay_op true
    · rcases List.mem_append.mp q with q | q
      · exact evsM_ok n es h.2.2.2 e q
      · have q : e = .cl := by simpa using q
        rw [q]
        exact lay_cl
theorem evsL_ok : ∀ (n : Nat) (xs : List Vl), vokL n xs → ∀ e ∈ evsL xs, EvOk e
  | _, [], _, e, he => absurd he (by simp [evsL])
  | n, x :: xs, h, e, he => by
    rcases List.mem_append.mp (show e ∈ x.evs ++ evsL xs from he) with q | q
    · exact evs_ok n x h.1 e q
    · exact evsL_ok n xs h.2 e q
theorem evsM_ok : ∀ (n : Nat) (xs : List (List Int × Vl)), vokM n xs → ∀ e ∈ evsM xs, EvOk e
  | _, [], _, e, he => absurd he (by simp [evsM])
  | n, (k, x) :: xs, h, e, he => by
    rcases List.mem_cons.mp (show e ∈ Ev.ky k :: (x.evs ++ evsM xs) from he) with q | q
    · rw [q]
      exact lay_ky k
    · rcases List.mem_append.mp q with q | q
      · exact evs_ok n x h.1 e q
      · exact evsM_ok n xs h.2 e q
end
theorem evD_lay : ∀ {es : List Ev}, (∀ e ∈ es, EvOk e) → PyData.canLayAll0 (evD es) = true ∧ PyData.depthAll (evD es) ≤ 4
  | [], _ => ⟨rfl, Nat.zero_le _⟩
  | e :: es, h => by
    obtain ⟨h1, h2⟩ := evD_lay (es := es) fun x hx => h x (List.mem_cons_of_mem _ hx)
    obtain ⟨g1, g2⟩ := h e (List.mem_cons_self ..)
    refine ⟨?_, ?_⟩
    · show (e.dat.canLay0 && PyData.canLayAll0 (evD es)) = true
      rw [g1, h1]
      rfl
    · show max e.dat.depth (PyData.depthAll (evD es)) ≤ 4
      omega
theorem d_builder {K : Frg} {H : Hp} {R : Addr → Hp → Prop} {E : XK} (h : ∀ b l H', H b = none → H l = none → BAt K H' b l ⟨[], none⟩ [] → Same H H' → R b H') : ∀ x dx, H x = none → H dx = none → dx ≠ x → sp_Builder___init__ K (.ref x :: ([] ++ [])) (upd (upd H dx (.own x)) x (.ins (C_Builder K) dx [])) (fun v H2 => v = .non ∧ R x H2) E := by
  intro a dx ha hd hne
  refine ⟨_, rfl, a, dx, rfl, upd_same, fun l H' hl hla hU g => ⟨rfl, ?_⟩⟩
  have hl0 : H l = none := by
    rw [upd_ne hla] at hl
    by_cases e : l = dx
    · rw [e] at hl ⊢
      exact hd
    · rw [upd_ne e] at hl
      exact hl
  refine h a l H' ha hl0 hU fun b u z => ?_
  have h1 : b ≠ a := fun e => by
    rw [e, ha] at z
    cases z
  have h2 : b ≠ dx := fun e => by
    rw [e, hd] at z
    cases z
  exact g b u h1 (by rw [upd_ne h1, upd_ne h2]; exact z)

local macro_rules | `(tactic| walk_at "ne") => `(tactic| first
  | assumption
  | (apply Ne.symm; assumption)
  | (refine ne_of_none ?_ ?_; rotate_left; assumption; walk_at "hl")
  | (apply Ne.symm; refine ne_of_none ?_ ?_; rotate_left; assumption; walk_at "hl"))
local macro_rules | `(tactic| walk_at "nm") => `(tactic| first
  | assumption
  | exact nm_nil
  | (refine nm_cons ?_ ?_; walk_at "ne"; walk_at "nm")
  | (refine nm_app ?_ ?_ <;> walk_at "nm"))
local macro_rules | `(tactic| walk_at "hl") => `(tactic| first
  | assumption
  | exact upd_same
  | (refine (upd_ne ?_).trans ?_; walk_at "ne"; walk_at "hl")
  | (refine Eb.get (by assumption) ?_ ?_; walk_at "ne"; walk_at "hl")
  | (refine Ch.get (by assumption) ?_ ?_; walk_at "nm"; walk_at "hl")
  | (refine Same.get (by assumption) ?_; walk_at "hl")
  | (refine Ch.tup (by assumption) ?_; walk_at "hl"))
local macro_rules | `(tactic| walk_at "ms") => `(tactic| first
  | assumption
  | exact ms_nil
  | (refine ms_cons ?_ ?_; (first | (left; simp; done) | (right; assumption)); walk_at "ms")
  | (refine ms_app ?_ ?_ <;> walk_at "ms"))
local macro_rules | `(tactic| walk_at "ch") => `(tactic| first
  | assumption
  | exact Ch.refl
  | (refine Ch.eb (by assumption) (by simp; done) ?_; walk_at "ch")
  | (refine Ch.ebn (by assumption) (by assumption) ?_; walk_at "ch")
  | (refine Ch.ch (by assumption) ?_ ?_; walk_at "ms"; walk_at "ch")
  | (refine Ch.same (by assumption) ?_; walk_at "ch"))
local macro_rules | `(tactic| walk_at "rh1") => `(tactic| first
  | (with_reducible refine r_seq ?_)
  | (with_reducible refine r_asg ?_)
  | (with_reducible refine r_name ?_)
  | ((with_reducible apply r_var); (· rfl))
  | (with_reducible refine r_c ?_)
  | (with_reducible refine r_op ?_)
  | (with_reducible refine r_I0 ?_)
  | (with_reducible refine r_eqI ?_)
  | (with_reducible refine r_neI ?_)
  | (with_reducible refine r_eqS ?_)
  | (with_reducible refine r_neS ?_)
  | (with_reducible refine r_cons ?_)
  | (with_reducible refine r_nil ?_)
  | (with_reducible refine r_test ?_)
  | (with_reducible refine r_B ?_)
  | (with_reducible refine r_bl ?_)
  | (with_reducible refine r_ret ?_)
  | (with_reducible refine r_drop ?_)
  | (with_reducible refine r_un ?_)
  | (with_reducible refine r_U ?_)
  | (with_reducible refine r_CB ?_)
  | (with_reducible refine r_call ?_)
  | (with_reducible refine r_retN ?_)
  | (with_reducible refine r_next ?_)
  | (with_reducible refine r_brk ?_)
  | (with_reducible refine r_and ?_)
  | (with_reducible refine r_or ?_)
  | (with_reducible refine r_not ?_)
  | (with_reducible refine r_andV ?_)
  | (with_reducible refine r_orV ?_)
  | (with_reducible refine r_notV ?_)
  | (with_reducible refine r_chain ?_)
  | (with_reducible refine r_iteF ?_)
  | (with_reducible refine r_iteT ?_)
  | (with_reducible refine r_iteNT ?_)
  | (with_reducible refine r_iteNF ?_)
  | ((with_reducible apply r_I); (· first | decide | exact ⟨by decide, by decide⟩ | exact .inr ⟨by decide, by decide⟩ | exact .inl ⟨by decide, by decide⟩ | exact ⟨by decide, by decide, by decide⟩))
  | (with_reducible refine r_bm ?_)
  | (with_reducible refine r_bm0 ?_)
  | (with_reducible refine r_sub ?_)
  | (with_reducible refine r_yes ?_)
  | (with_reducible refine r_fld ?_)
  | (with_reducible refine r_sfld ?_)
  | (with_reducible refine r_meth ?_)
  | (with_reducible refine r_prop ?_)
  | (with_reducible refine r_make ?_)
  | (with_reducible refine r_gcons ?_)
  | (with_reducible refine r_gnil ?_)
  | (with_reducible refine r_rfl ?_)
  | (with_reducible refine r_for ?_)
  | (with_reducible refine r_rng1 ?_)
  | (with_reducible refine r_int1 ?_)
  | (with_reducible refine r_abs ?_)
  | (with_reducible refine r_tup ?_)
  | (with_reducible refine r_lst ?_))
local macro_rules | `(tactic| walk_at "rh1") => `(tactic| first
  | (with_reducible refine r_sl ?_)
  | (with_reducible refine r_part ?_)
  | (with_reducible refine r_some ?_)
  | (with_reducible refine r_nopart ?_)
  | (with_reducible refine r_rng2 ?_)
  | (with_reducible refine r_rng3 ?_)
  | (with_reducible refine r_itL ?_)
  | (with_reducible refine r_itT ?_)
  | (with_reducible refine r_lcT ?_)
  | (with_reducible refine r_lcL ?_)
  | (with_reducible refine r_lc0 ?_))

local macro_rules | `(tactic| walk_at "fcl") => `(tactic| first | exact Nm.cl_Begun (by assumption) | exact Nm.cl_Counted (by assumption) | exact Nm.cl_Base64 (by assumption) | exact Nm.cl_SexpToken (by assumption) | exact Nm.cl_SexpHex (by assumption) | exact Nm.cl_SexpBase64 (by assumption) | exact Nm.cl_SexpLoose (by assumption) | exact Nm.cl_Nest (by assumption) | exact Nm.cl_SexpEscape (by assumption) | exact Nm.cl_SexpQuoted (by assumption) | exact Nm.cl_SexpScanner (by assumption) | exact Nm.cl_Frame (by assumption) | exact Nm.cl_Builder (by assumption))
local macro_rules | `(tactic| walk_at "fna") => `(tactic| first | exact Nm.na_Begun__many (by assumption) | exact Nm.na_Counted_is_done (by assumption) | exact Nm.na_Counted_can_end (by assumption) | exact Nm.na_Counted_has_begun (by assumption) | exact Nm.na_Counted_octets (by assumption) | exact Nm.na_Counted__missing (by assumption) | exact Nm.na_Base64_octets (by assumption) | exact Nm.na_Base64__digits (by assumption) | exact Nm.na_Base64__pads (by assumption) | exact Nm.na_Base64__rest (by assumption) | exact Nm.na_SexpToken_is_done (by assumption) | exact Nm.na_SexpToken_can_end (by assumption) | exact Nm.na_SexpToken__octets (by assumption) | exact Nm.na_SexpHex_is_done (by assumption) | exact Nm.na_SexpHex_can_end (by assumption) | exact Nm.na_SexpHex__octets (by assumption) | exact Nm.na_SexpHex__first (by assumption) | exact Nm.na_SexpBase64_is_done (by assumption) | exact Nm.na_SexpBase64_can_end (by assumption) | exact Nm.na_SexpBase64__base64 (by assumption) | exact Nm.na_SexpLoose__begun (by assumption) | exact Nm.na_SexpLoose__are_empty (by assumption) | exact Nm.na_Nest__levels (by assumption) | exact Nm.na_SexpEscape_is_done (by assumption) | exact Nm.na_SexpEscape_octet (by assumption) | exact Nm.na_SexpEscape__base (by assumption) | exact Nm.na_SexpEscape__missing (by assumption) | exact Nm.na_SexpEscape__worth (by assumption) | exact Nm.na_SexpQuoted_is_done (by assumption) | exact Nm.na_SexpQuoted_can_end (by assumption) | exact Nm.na_SexpQuoted__octets (by assumption) | exact Nm.na_SexpQuoted__escape (by assumption) | exact Nm.na_SexpScanner__place (by assumption) | exact Nm.na_SexpScanner__is_over (by assumption) | exact Nm.na_SexpScanner__nest (by assumption) | exact Nm.na_SexpScanner__atom (by assumption) | exact Nm.na_Frame_kind (by assumption) | exact Nm.na_Frame_key (by assumption) | exact Nm.na_Frame_inside (by assumption) | exact Nm.na_Builder_is_done (by assumption) | exact Nm.na_Builder_value (by assumption) | exact Nm.na_Builder__frames (by assumption))
local macro_rules | `(tactic| walk_at "flk") => `(tactic| first | exact lk_Begun__many | exact lk_Counted_is_done | exact lk_Counted_can_end | exact lk_Counted_has_begun | exact lk_Counted_octets | exact lk_Counted__missing | exact lk_Base64_octets | exact lk_Base64__digits | exact lk_Base64__pads | exact lk_Base64__rest | exact lk_SexpToken_is_done | exact lk_SexpToken_can_end | exact lk_SexpToken__octets | exact lk_SexpHex_is_done | exact lk_SexpHex_can_end | exact lk_SexpHex__octets | exact lk_SexpHex__first | exact lk_SexpBase64_is_done | exact lk_SexpBase64_can_end | exact lk_SexpBase64__base64 | exact lk_SexpLoose__begun | exact lk_SexpLoose__are_empty | exact lk_Nest__levels | exact lk_SexpEscape_is_done | exact lk_SexpEscape_octet | exact lk_SexpEscape__base | exact lk_SexpEscape__missing | exact lk_SexpEscape__worth | exact lk_SexpQuoted_is_done | exact lk_SexpQuoted_can_end | exact lk_SexpQuoted__octets | exact lk_SexpQuoted__escape | exact lk_SexpScanner__place | exact lk_SexpScanner__is_over | exact lk_SexpScanner__nest | exact lk_SexpScanner__atom | exact lk_Frame_kind | exact lk_Frame_key | exact lk_Frame_inside | exact lk_Builder_is_done | exact lk_Builder_value | exact lk_Builder__frames)
local macro_rules | `(tactic| walk_at "ffw") => `(tactic| first | exact few_Begun | exact few_Counted | exact few_Base64 | exact few_SexpToken | exact few_SexpHex | exact few_SexpBase64 | exact few_SexpLoose | exact few_Nest | exact few_SexpEscape | exact few_SexpQuoted | exact few_SexpScanner | exact few_Frame | exact few_Builder)
local macro_rules | `(tactic| walk_at "fpt") => `(tactic| first | exact pt_Begun__many | exact pt_Counted_is_done | exact pt_Counted_can_end | exact pt_Counted_has_begun | exact pt_Counted_octets | exact pt_Counted__missing | exact pt_Base64_octets | exact pt_Base64__digits | exact pt_Base64__pads | exact pt_Base64__rest | exact pt_SexpToken_is_done | exact pt_SexpToken_can_end | exact pt_SexpToken__octets | exact pt_SexpHex_is_done | exact pt_SexpHex_can_end | exact pt_SexpHex__octets | exact pt_SexpHex__first | exact pt_SexpBase64_is_done | exact pt_SexpBase64_can_end | exact pt_SexpBase64__base64 | exact pt_SexpLoose__begun | exact pt_SexpLoose__are_empty | exact pt_Nest__levels | exact pt_SexpEscape_is_done | exact pt_SexpEscape_octet | exact pt_SexpEscape__base | exact pt_SexpEscape__missing | exact pt_SexpEscape__worth | exact pt_SexpQuoted_is_done | exact pt_SexpQuoted_can_end | exact pt_SexpQuoted__octets | exact pt_SexpQuoted__escape | exact pt_SexpScanner__place | exact pt_SexpScanner__is_over | exact pt_SexpScanner__nest | exact pt_SexpScanner__atom | exact pt_Frame_kind | exact pt_Frame_key | exact pt_Frame_inside | exact pt_Builder_is_done | exact pt_Builder_value | exact pt_Builder__frames)
local macro_rules | `(tactic| walk_at "fno") => `(tactic| first | exact no_Begun_note | exact no_Begun__count | exact no_Counted_take | exact no_Counted__take_in_count | exact no_Counted_leaf | exact no_Base64_take | exact no_Base64__take_pad | exact no_Base64__take_digit | exact no_SexpToken_take | exact no_SexpToken_leaf | exact no_SexpHex_take | exact no_SexpHex__take_digit | exact no_SexpHex_leaf | exact no_SexpBase64_take | exact no_SexpBase64_leaf | exact no_SexpLoose_take | exact no_SexpLoose__before_item | exact no_Nest_inner | exact no_Nest_grow | exact no_Nest_shrink | exact no_Nest_note_key | exact no_SexpEscape_take | exact no_SexpEscape__take_first | exact no_SexpEscape__take_digit | exact no_SexpQuoted_take | exact no_SexpQuoted__take_in_escape | exact no_SexpQuoted_leaf | exact no_SexpScanner_step | exact no_SexpScanner_end | exact no_SexpScanner__go_on | exact no_SexpScanner__end_atom | exact no_SexpScanner__end_value | exact no_SexpScanner__take_mark | exact no_SexpScanner__close | exact no_Frame_put | exact no_Frame_built | exact no_Builder_take | exact no_Builder__put)
local macro_rules | `(tactic| walk_at "rf1") => `(tactic| first | (with_reducible refine r_lstE ?_) | (with_reducible refine r_tupE ?_) | (with_reducible refine r_dnwE ?_) | (with_reducible refine r_orT ?_) | (with_reducible refine r_din ?_) | (with_reducible refine r_dput ?_) | walk_at "rd1" | ((with_reducible apply r_fget); walk_at "hl"; walk_at "fcl"; walk_at "fna"; walk_at "flk") | ((with_reducible apply r_mget); walk_at "hl"; walk_at "fno") | ((with_reducible apply r_pget); walk_at "hl"))
local macro_rules | `(tactic| walk_at "rf") => `(tactic| repeat (walk_at "rf1"))
local macro_rules | `(tactic| walk_at "rg1") => `(tactic| first | (with_reducible refine r_lstE ?_) | (with_reducible refine r_tupE ?_) | (with_reducible refine r_dnwE ?_) | (with_reducible refine r_orT ?_) | (with_reducible refine r_din ?_) | (with_reducible refine r_dput ?_) | walk_at "ri1" | ((with_reducible apply r_fget); walk_at "hl"; walk_at "fcl"; walk_at "fna"; walk_at "flk") | ((with_reducible apply r_mget); walk_at "hl"; walk_at "fno") | ((with_reducible apply r_pget); walk_at "hl"))
local macro_rules | `(tactic| walk_at "rk1") => `(tactic| first | (with_reducible refine r_lstE ?_) | (with_reducible refine r_tupE ?_) | (with_reducible refine r_dnwE ?_) | (with_reducible refine r_orT ?_) | (with_reducible refine r_din ?_) | (with_reducible refine r_dput ?_) | walk_at "rh1" | ((with_reducible apply r_fget); walk_at "hl"; walk_at "fcl"; walk_at "fna"; walk_at "flk") | ((with_reducible apply r_mget); walk_at "hl"; walk_at "fno") | ((with_reducible apply r_pget); walk_at "hl"))
local macro_rules | `(tactic| walk_at "rk") => `(tactic| repeat (walk_at "rk1"))
local macro_rules | `(tactic| walk_at "rg") => `(tactic| repeat (walk_at "rg1"))
local macro_rules | `(tactic| walk_at "fs") => `(tactic| (apply r_fsetE; walk_at "hl"; walk_at "fcl"; walk_at "fna"; walk_at "ffw"; walk_at "fpt"))

/-! ### a counted row of octets -/





def isDg (o : Int) : Bool := decide (48 ≤ o) && decide (o ≤ 57)
def optV : Option Int → V
  | some i => .int i
  | none => .non
theorem optV_some (i : Int) : optV (some i) = .int i := rfl
theorem optV_none : optV none = .non := rfl
def sp_is_digit : Sp := sp1 fun a H Q _ => ∃ o : Int, a = .int o ∧ Q (.bl (isDg o)) H
structure Ct where
  d : Bool
  b : Bool
  os : List Int
  m : Option Int
def CtAt (K : Frg) (H : Hp) (a l : Addr) (s : Ct) : Prop := ∃ dx, H a = some (.ins (C_Counted K) dx (fs_Counted (.bl s.d) (.bl false) (.bl s.b) (.ref l) (optV s.m))) ∧ H l = some (.lst (s.os.map V.int)) ∧ a ≠ l
def ct0 : Ct := ⟨false, false, [], none⟩
def ctCount (s : Ct) (o : Int) : Bool × Ct :=
  if o = 58 ∧ s.m ≠ none then (true, { s with b := true, d := decide (s.m.getD 0 = 0) }) else if isDg o = false ∨ s.m = some 0 then (false, s) else (true, { s with m := some ((s.m.getD 0) * 10 + o - 48) })
def ctTake (s : Ct) (o : Int) : Bool × Ct :=
  if s.b = true then (true, { s with os := s.os ++ [o], m := some (s.m.getD 0 - 1), d := decide (s.m.getD 0 - 1 = 0) }) else ctCount s o
def CtOk (s : Ct) : Prop := s.b = true → ∃ k, s.m = some k
theorem CtAt.get {K : Frg} {H H' : Hp} {a l : Addr} {s : Ct} {o : List Addr} (h : CtAt K H a l s) (c : Ch o H H') (na : a ∉ o) (nl : l ∉ o) : CtAt K H' a l s := by
  obtain ⟨dx, h1, h2, h3⟩ := h
  exact ⟨dx, c.get na h1, c.get nl h2, h3⟩
def sp_Counted___init__ (K : Frg) : Sp := sp1 fun p H Q _ => ∃ a dx, p = .ref a ∧ H a = some (.ins (C_Counted K) dx []) ∧ ∀ l H', H l = none → CtAt K H' a l ct0 → Ch [a] H H' → Q .non H'
def sp_Counted__take_in_count (K : Frg) : Sp := sp2 fun p o H Q _ => ∃ a l s b, p = .ref a ∧ o = .int b ∧ CtAt K H a l s ∧ ∀ H', CtAt K H' a l (ctCount s b).2 → Ch [a, l] H H' → Q (.bl (ctCount s b).1) H'
def sp_Counted_take (K : Frg) : Sp := sp2 fun p o H Q _ => ∃ a l s b, p = .ref a ∧ o = .int b ∧ CtAt K H a l s ∧ CtOk s ∧ s.os.length < sizeLine ∧ ∀ H', CtAt K H' a l (ctTake s b).2 → Ch [a, l] H H' → Q (.bl (ctTake s b).1) H'
def sp_Counted_leaf (K : Frg) : Sp := sp1 fun p H Q _ => ∃ a l s, p = .ref a ∧ CtAt K H a l s ∧ ∀ p H', Tp H' p (.tuple [.str "bytes", kd s.os]) → Same H H' → Q p H'
section
variable {P : Program} {w : World} {K : PySem.W.Frag} {mg : Str → Option Value} {base : Heap} {f : Addr} {fd : FuncData}
theorem ok_is_digit (F : FunD K "is_digit" "is_digit" (defArgs s_is_digit) (defBody s_is_digit) (defScope s_is_digit) [] [] (glAd "is_digit" K) fd) (m : mg "is_digit" = some (.ref (glAd "is_digit" K))) (nb : Nm w K mg) : Cal P w K mg base 1 "is_digit" sp_is_digit [] := by
  refine calD F m sc_is_digit (fun _ _ _ _ _ _ us hl => match us, hl with | [_], _ => rfl) len1 (fun cdv A outer s H vs Q E hr h => ⟨_, (pss_one (ps_ret (pe_chain op_le op_le (pe_gc rfl nb.g_ZERO) (pv 0) (pe_gc rfl nb.g_NINE)))), ?_⟩)
  obtain ⟨_, rfl, o, rfl, h⟩ := h
  walk_at "rd"
  unfold isDg at h
  refine r_ite (fun c => ?_) (fun c => ?_)
  · walk_at "rd"
    rw [decide_eq_true c] at h
    exact h
  · rw [decide_eq_false c] at h
    exact h
theorem ok_Counted___init__ (F : FunD K "__init__" "Counted.__init__" (defArgs s_Counted___init__) (defBody s_Counted___init__) (defScope s_Counted___init__) [] [] (meAd "Counted" "__init__" K) fd) (nb : Nm w K mg) : Mak P w K mg base 1 "Counted" (C_Counted K) (sp_Counted___init__ K) [] := by
  refine makD F nb.mk_Counted nb.g_Counted sc_Counted___init__ (fun _ _ _ _ _ _ us hl => match us, hl with | [_], _ => rfl) len1 (fun cdv A outer s H vs Q E hr h => ⟨_, (pss_cons (ps_fld (pv 0) pe_bl rfl)
    (pss_cons (ps_fld (pv 0) pe_bl rfl)
    (pss_cons (ps_fld (pv 0) pe_bl rfl)
    (pss_cons (ps_fld (pv 0) (pe_lstE pa_nil) rfl)
    (pss_one (ps_fld (pv 0) pe_non rfl)))))), ?_⟩)
  obtain ⟨_, rfl, a, dx, rfl, hA, h⟩ := h
  walk_at "rf"
  refine r_fsetE hA nb.cl_Counted nb.na_Counted_is_done (by decide) (in_Counted_is_done) fun H1 hA1 f1 => ?_
  walk_at "rf"
  refine r_fsetE hA1 nb.cl_Counted nb.na_Counted_can_end (by simp) (in_Counted_can_end) fun H2 hA2 f2 => ?_
  walk_at "rf"
  refine r_fsetE hA2 nb.cl_Counted nb.na_Counted_has_begun (by simp) (in_Counted_has_begun) fun H3 hA3 f3 => ?_
  walk_at "rf"
  refine ⟨by show 0 ≤ sizeLine; decide, fun l H4 nl hL4 s4 => ?_⟩
  have hne : a ≠ l := Same.ne nl hA3
  have c3 : Ch [a] H H3 := by walk_at "ch"
  walk_at "rf"
  refine r_fsetE (s4 _ _ hA3) nb.cl_Counted nb.na_Counted_octets (by simp) (in_Counted_octets) fun H5 hA5 f5 => ?_
  walk_at "rf"
  refine r_fsetE hA5 nb.cl_Counted nb.na_Counted__missing (by simp) (in_Counted__missing) fun H6 hA6 f6 => ?_
  exact h l H6 ((c3.fresh nl).resolve_left (by simp [Ne.symm hne])) ⟨dx, hA6, by walk_at "hl", hne⟩ (by walk_at "ch")
theorem ok_Counted__take_in_count (F : FunD K "_take_in_count" "Counted._take_in_count" (defArgs s_Counted__take_in_count) (defBody s_Counted__take_in_count) (defScope s_Counted__take_in_count) [] [] (meAd "Counted" "_take_in_count" K) fd) (nb : Nm w K mg) (c_is_digit : Cal P w K mg base 1 "is_digit" sp_is_digit []) : Met P w K mg base 2 (C_Counted K) "_take_in_count" (sp_Counted__take_in_count K) [] := by
  refine metD F nb.cl_Counted nb.me_Counted__take_in_count sc_Counted__take_in_count (fun _ _ _ _ _ _ us hl => match us, hl with | [_, _], _ => rfl) len2 (fun cdv A outer s H vs Q E hr h => ⟨_, (pss_cons (ps_if (PW.pt (pw_and (pt_cmpR op_eq (pv 1) (pe_gc rfl nb.g_COLON) (nomark _)) (pw_and1 (pt_cmpR op_notN (pe_fld (pv 0) rfl) pe_non (nomark _)))))
    (pss_cons (ps_fld (pv 0) pe_bl rfl)
    (pss_cons (ps_fld (pv 0) (pe_cmpR op_eq (pe_fld (pv 0) rfl) pe_int (nomark _)) rfl)
    (pss_one (ps_ret pe_bl))))
    pss_nil)
    (pss_cons (ps_if (PW.pt (pw_or (pt_not (pt_val (pe_c c_is_digit hr (by decide) rfl (pa_cons (pv 1) pa_nil)))) (pw_or1 (pt_cmpR op_eq (pe_fld (pv 0) rfl) pe_int (nomark _)))))
    (pss_one (ps_ret pe_bl))
    pss_nil)
    (pss_cons (ps_fld (pv 0) (pe_op op_sub (pe_op op_add (pe_op op_mul (pe_orT (pe_fld (pv 0) rfl) (pe_one pe_int)) pe_int) (pv 1)) (pe_gc rfl nb.g_ZERO)) rfl)
    (pss_one (ps_ret pe_bl))))), ?_⟩)
  obtain ⟨_, _, rfl, a, l, s, b, rfl, rfl, ⟨dx, hA, hL, ne⟩, h⟩ := h
  have hdig : ∀ R : VK, R (.bl (isDg b)) H → sp_is_digit ([.int b] ++ []) H R C8.E0 := fun R q => ⟨_, rfl, b, rfl, q⟩
  have first : ∀ R : Bool → Hp → Prop, R (decide (b = 58 ∧ s.m ≠ none)) H → (tAnd (tTest (tOp rEq (tVar 1) (tC (.int 58)))) (tTest (tOp (fun x y H Q => y = .non ∧ Q (.bl (!decide (x = .non))) H) (tFld K (tVar 0) "_missing") (tC V.non)))) (L2.start ["self", "octet"] [V.ref a, V.int b]) H R := by
    intro R q
    walk_at "rf"
    refine r_ite (fun c => ?_) (fun c => ?_)
    · walk_at "rf"
      have e : decide (b = 58 ∧ s.m ≠ none) = !decide (optV s.m = .non) := by
        cases s.m <;> simp [optV, c]
      rw [e] at q
      exact q
    · rw [decide_eq_false (fun z => c z.1)] at q
      exact q
  walk_at "rg"
  refine r_ifB (decide (b = 58 ∧ s.m ≠ none)) (fun R hR => first R hR) ?_
  refine r_ite (fun c => ?_) (fun c => ?_)
  · obtain ⟨k, hk⟩ := Option.ne_none_iff_exists'.mp c.2
    have e : ctCount s b = (true, { s with b := true, d := decide (k = 0) }) := by simp [ctCount, c.1, hk]
    rw [e] at h
    rw [hk, optV_some] at hA
    walk_at "rf"
    walk_at "fs"
    intro H1 hA1 f1
    walk_at "rf"
    walk_at "fs"
    intro H2 hA2 f2
    walk_at "rf"
    exact h H2 ⟨dx, by rw [hk]; exact hA2, by walk_at "hl", ne⟩ (by walk_at "ch")
  have second : ∀ R : Bool → Hp → Prop, R (decide (isDg b = false ∨ s.m = some 0)) H → (tOr (tNot (tB (tCall sp_is_digit [] C8.E0 (tCons (tVar 1) tNil)))) (tTest (tOp rEq (tFld K (tVar 0) "_missing") (tC (.int 0))))) (L2.start ["self", "octet"] [V.ref a, V.int b]) H R := by
    intro R q
    walk_at "rf"
    refine ⟨_, rfl, b, rfl, _, rfl, ?_⟩
    cases hd : isDg b with
    | false =>
      rw [decide_eq_true (.inl hd)] at q
      walk_at "rf"
      exact q
    | true =>
      walk_at "rf"
      have e : decide (isDg b = false ∨ s.m = some 0) = decide (optV s.m = .int 0) := by
        rw [hd]
        cases s.m <;> simp [optV]
      rw [e] at q
      refine ⟨by cases s.m <;> rfl, ?_⟩
      walk_at "rf"
      exact q
  walk_at "rg"
  refine r_ifB (decide (isDg b = false ∨ s.m = some 0)) (fun R hR => second R hR) ?_
  refine r_ite (fun c2 => ?_) (fun c2 => ?_)
  · have e : ctCount s b = (false, s) := by
      unfold ctCount
      rw [if_neg c, if_pos c2]
    rw [e] at h
    walk_at "rf"
    exact h H ⟨dx, hA, hL, ne⟩ Ch.refl
  have e : ctCount s b = (true, { s with m := some ((s.m.getD 0) * 10 + b - 48) }) := by
    unfold ctCount
    rw [if_neg c, if_neg c2]
  rw [e] at h
  walk_at "rf"
  have go : ∀ k : Int, s.m.getD 0 = k → rI0 (fun x y => .int (x + y)) (.int (k * 10)) (.int b) H fun x H1 => True := fun k _ => ⟨_, _, rfl, rfl, trivial⟩
  cases hm : s.m with
  | none =>
    refine ⟨false, rfl, ?_⟩
    walk_at "rf"
    walk_at "fs"
    intro H1 hA1 f1
    walk_at "rf"
    rw [hm] at h
    exact h H1 ⟨dx, hA1, by walk_at "hl", ne⟩ (by walk_at "ch")
  | some k =>
    have hk0 : k ≠ 0 := fun z => c2 (.inr (by rw [hm, z]))
    refine ⟨true, by show true = (k != 0); simp [hk0], ?_⟩
    rw [optV_some]
    walk_at "rf"
    walk_at "fs"
    intro H1 hA1 f1
    walk_at "rf"
    rw [hm] at h
    exact h H1 ⟨dx, hA1, by walk_at "hl", ne⟩ (by walk_at "ch")
theorem ok_Counted_take (F : FunD K "take" "Counted.take" (defArgs s_Counted_take) (defBody s_Counted_take) (defScope s_Counted_take) [] [] (meAd "Counted" "take" K) fd) (nb : Nm w K mg) (m_Counted__take_in_count : Met P w K mg base 2 (C_Counted K) "_take_in_count" (sp_Counted__take_in_count K) []) : Met P w K mg base 3 (C_Counted K) "take" (sp_Counted_take K) [] := by
  refine metD F nb.cl_Counted nb.me_Counted_take sc_Counted_take (fun _ _ _ _ _ _ us hl => match us, hl with | [_, _], _ => rfl) len2 (fun cdv A outer s H vs Q E hr h => ⟨_, (pss_cons (ps_if (pt_not (pt_val (pe_fld (pv 0) rfl)))
    (pss_one (ps_ret (pe_mt m_Counted__take_in_count hr (by decide) (pv 0) (pa_cons (pv 1) pa_nil))))
    pss_nil)
    (pss_cons (ps_expr (pe_bm PySem.F.plainAttrs_list PySem.F.slot_list_append PySem.F.type_list_append mt_append (pe_fld (pv 0) rfl) (pa_cons (pv 1) pa_nil)))
    (pss_cons (ps_fld (pv 0) (pe_op op_sub (pe_fld (pv 0) rfl) pe_int) rfl)
    (pss_cons (ps_fld (pv 0) (pe_cmpR op_eq (pe_fld (pv 0) rfl) pe_int (nomark _)) rfl)
    (pss_one (ps_ret pe_bl)))))), ?_⟩)
  obtain ⟨_, _, rfl, a, l, s, b, rfl, rfl, hC, hok, hlen, h⟩ := h
  obtain ⟨dx, hA, hL, ne⟩ := id hC
  walk_at "rf"
  unfold ctTake at h
  cases hb : s.b with
  | false =>
    rw [hb, if_neg Bool.false_ne_true] at h
    walk_at "rf"
    exact ⟨_, _, rfl, a, l, s, b, rfl, rfl, hC, h⟩
  | true =>
    obtain ⟨k, hk⟩ := hok hb
    rw [hb, if_pos rfl, hk] at h
    rw [hk, hb, optV_some] at hA
    walk_at "rf"
    refine ⟨tyL hL, ?_⟩
    walk_at "rf"
    refine r_appE hL (by rw [List.length_map]; exact hlen) fun H1 hL1 f1 => ?_
    have hA1 := f1.get ne hA
    walk_at "rf"
    walk_at "fs"
    intro H2 hA2 f2
    walk_at "rf"
    walk_at "fs"
    intro H3 hA3 f3
    walk_at "rf"
    exact h H3 ⟨dx, hA3, by rw [← map_snoc]; walk_at "hl", ne⟩ (by walk_at "ch")
theorem ok_Counted_leaf (F : FunD K "leaf" "Counted.leaf" (defArgs s_Counted_leaf) (defBody s_Counted_leaf) (defScope s_Counted_leaf) [] [] (meAd "Counted" "leaf" K) fd) (nb : Nm w K mg) : Met P w K mg base 1 (C_Counted K) "leaf" (sp_Counted_leaf K) [] := by
  refine metD F nb.cl_Counted nb.me_Counted_leaf sc_Counted_leaf (fun _ _ _ _ _ _ us hl => match us, hl with | [_], _ => rfl) len1 (fun cdv A outer s H vs Q E hr h => ⟨_, (pss_one (ps_ret (pe_tupE (pa_cons pe_str (pa_cons (pe_callTy call_tuple_ofE (by rfl) nb.tuple (by decide +kernel) (pa_cons (pe_fld (pv 0) rfl) pa_nil)) pa_nil))))), ?_⟩)
  obtain ⟨_, rfl, a, l, s, rfl, ⟨dx, hA, hL, ne⟩, h⟩ := h
  walk_at "rf"
  refine r_toT (SqL.of hL) fun t H1 nt g1 s1 => ?_
  walk_at "rf"
  refine ⟨by show 2 ≤ sizeLine; decide, fun q H2 nq g2 s2 => ?_⟩
  exact h (.ref q) H2 (.tup g2 (.cons (.str _) (.cons (tp_kd (s2 _ _ g1)) .nil))) (s1.trans s2)
end

/-! ### the levels around a place -/




structure Lv where
  m : Bool
  ks : List (List Int)
def kindV : List Lv → V
  | [] => .non
  | l :: _ => .str (kindOf_ l.m)
def ikey (k : List Int) : List Key := k.map Sum.inl
def ktab (ks : List (List Int)) : List (List Key × V) := ks.map fun k => (ikey k, V.bl true)
def LvAt (H : Hp) : List (Addr × Addr) → List Lv → Prop
  | [], [] => True
  | d :: ds, l :: lv => H d.1 = some (.tup [.str (kindOf_ l.m), .ref d.2]) ∧ H d.2 = some (.dT (ktab l.ks)) ∧ LvAt H ds lv
  | _, _ => False
def nsOwn (n ll : Addr) (ds : List (Addr × Addr)) : List Addr := n :: ll :: ds.map (·.2)
def NsAt (K : Frg) (H : Hp) (n ll : Addr) (ds : List (Addr × Addr)) (lv : List Lv) : Prop := (∃ dx, H n = some (.ins (C_Nest K) dx (fs_Nest (.ref ll)))) ∧ H ll = some (.lst (ds.reverse.map fun d => V.ref d.1)) ∧ LvAt H ds lv ∧ (nsOwn n ll ds).Nodup
theorem LvAt.len {H : Hp} : ∀ {ds : List (Addr × Addr)} {lv : List Lv}, LvAt H ds lv → ds.length = lv.length
  | [], [], _ => rfl
  | _ :: _, _ :: _, h => congrArg (· + 1) (LvAt.len h.2.2)
  | [], _ :: _, h => h.elim
  | _ :: _, [], h => h.elim
theorem LvAt.get {H H' : Hp} {o : List Addr} (c : Ch o H H') : ∀ {ds : List (Addr × Addr)} {lv : List Lv}, LvAt H ds lv → (∀ x ∈ ds.map (·.2), x ∉ o) → LvAt H' ds lv
  | [], [], _, _ => trivial
  | d :: ds, l :: lv, h, n => ⟨c.tup h.1, c.get (n _ (List.mem_cons_self ..)) h.2.1, LvAt.get c h.2.2 fun x hx => n x (List.mem_cons_of_mem _ hx)⟩
  | [], _ :: _, h, _ => h.elim
  | _ :: _, [], h, _ => h.elim
theorem NsAt.get {K : Frg} {H H' : Hp} {n ll : Addr} {ds : List (Addr × Addr)} {lv : List Lv} {o : List Addr} (h : NsAt K H n ll ds lv) (c : Ch o H H') (d : ∀ x ∈ nsOwn n ll ds, x ∉ o) : NsAt K H' n ll ds lv := by
  obtain ⟨⟨dx, h1⟩, h2, h3, h4⟩ := h
  exact ⟨⟨dx, c.get (d _ (by simp [nsOwn])) h1⟩, c.get (d _ (by simp [nsOwn])) h2, h3.get c fun x hx => d x (List.mem_cons_of_mem _ (List.mem_cons_of_mem _ hx)), h4⟩
theorem kv_ikey (k : List Int) : (ikey k).map kV = k.map V.int := by
  unfold ikey
  rw [List.map_map]
  rfl
theorem ikey_inj : ∀ {a b : List Int}, ikey a = ikey b → a = b
  | [], [], _ => rfl
  | [], _ :: _, h => by cases h
  | _ :: _, [], h => by cases h
  | x :: a, y :: b, h => by
    injection h with h1 h2
    rw [Sum.inl.inj h1, ikey_inj h2]
theorem ktab_get (k : List Int) : ∀ ks : List (List Int), (valV (ktab ks) (ikey k)).isSome = decide (k ∈ ks)
  | [] => rfl
  | x :: ks => by
    show (valV ((ikey x, V.bl true) :: ktab ks) (ikey k)).isSome = _
    by_cases c : x = k
    · subst c
      rw [valV_pos rfl]
      simp
    · rw [valV_neg (fun q => c (ikey_inj q)), ktab_get k ks]
      simp [Ne.symm c]
theorem ktab_put {k : List Int} {ks : List (List Int)} (h : k ∉ ks) : putK (ktab ks) (ikey k) (.bl true) = ktab (ks ++ [k]) := by
  unfold putK
  rw [valV_any, ktab_get, decide_eq_false h]
  unfold ktab
  rw [List.map_append]
  rfl
theorem at_last {xs : List V} {y : V} : atI (xs ++ [y]) (-1) = some y := by
  unfold atI ixN
  rw [if_neg (by decide), List.length_append]
  show ((if -((xs.length + 1 : Nat) : Int) ≤ -1 then some ((-1 : Int) + ((xs.length + 1 : Nat) : Int)).toNat else none).bind fun j => (xs ++ [y])[j]?) = _
  rw [if_pos (by omega), show ((-1 : Int) + ((xs.length + 1 : Nat) : Int)).toNat = xs.length by omega]
  simp
theorem rev_map_snoc (d : Addr × Addr) (ds : List (Addr × Addr)) : ((d :: ds).reverse.map fun d => V.ref d.1) = (ds.reverse.map fun d => V.ref d.1) ++ [V.ref d.1] := by
  rw [List.reverse_cons, List.map_append]
  rfl
def sp_Nest___init__ (K : Frg) : Sp := sp1 fun p H Q _ => ∃ a dx, p = .ref a ∧ H a = some (.ins (C_Nest K) dx []) ∧ ∀ l H', H l = none → NsAt K H' a l [] [] → Ch [a] H H' → Q .non H'
def sp_Nest_inner (K : Frg) : Sp := sp1 fun p H Q _ => ∃ n ll ds lv, p = .ref n ∧ NsAt K H n ll ds lv ∧ lv.length ≤ 1000 ∧ Q (kindV lv) H
def sp_Nest_grow (K : Frg) : Sp := sp2 fun p o H Q _ => ∃ n ll ds lv m, p = .ref n ∧ o = .str (kindOf_ m) ∧ NsAt K H n ll ds lv ∧ lv.length ≤ 24 ∧
  (lv.length = 24 → Q (.bl false) H) ∧ (lv.length ≠ 24 → ∀ d H', H d.1 = none → H d.2 = none → NsAt K H' n ll (d :: ds) (⟨m, []⟩ :: lv) → Ch (nsOwn n ll ds) H H' → Q (.bl true) H')
def sp_Nest_shrink (K : Frg) : Sp := sp1 fun p H Q _ => ∃ n ll d ds l lv, p = .ref n ∧ NsAt K H n ll (d :: ds) (l :: lv) ∧ ∀ H', NsAt K H' n ll ds lv → Ch (nsOwn n ll (d :: ds)) H H' → Q .non H'
section
variable {P : Program} {w : World} {K : PySem.W.Frag} {mg : Str → Option Value} {base : Heap} {f : Addr} {fd : FuncData}
theorem ok_Nest___init__ (F : FunD K "__init__" "Nest.__init__" (defArgs s_Nest___init__) (defBody s_Nest___init__) (defScope s_Nest___init__) [] [] (meAd "Nest" "__init__" K) fd) (nb : Nm w K mg) : Mak P w K mg base 1 "Nest" (C_Nest K) (sp_Nest___init__ K) [] := by
  refine makD F nb.mk_Nest nb.g_Nest sc_Nest___init__ (fun _ _ _ _ _ _ us hl => match us, hl with | [_], _ => rfl) len1 (fun cdv A outer s H vs Q E hr h => ⟨_, (pss_one (ps_fld (pv 0) (pe_lstE pa_nil) rfl)), ?_⟩)
  obtain ⟨_, rfl, a, dx, rfl, hA, h⟩ := h
  walk_at "rf"
  refine ⟨by show 0 ≤ sizeLine; decide, fun l H1 nl hL s1 => ?_⟩
  have hne : a ≠ l := Same.ne nl hA
  walk_at "rf"
  refine r_fsetE (s1 _ _ hA) nb.cl_Nest nb.na_Nest__levels (by decide) (in_Nest__levels) fun H2 hA2 f2 => ?_
  exact h l H2 nl ⟨⟨dx, hA2⟩, by walk_at "hl", trivial, by simp [nsOwn, hne]⟩ (by walk_at "ch")
theorem ok_Nest_inner (F : FunD K "inner" "Nest.inner" (defArgs s_Nest_inner) (defBody s_Nest_inner) (defScope s_Nest_inner) [] [] (meAd "Nest" "inner" K) fd) (nb : Nm w K mg) : Met P w K mg base 1 (C_Nest K) "inner" (sp_Nest_inner K) [] := by
  refine metD F nb.cl_Nest nb.me_Nest_inner sc_Nest_inner (fun _ _ _ _ _ _ us hl => match us, hl with | [_], _ => rfl) len1 (fun cdv A outer s H vs Q E hr h => ⟨_, (pss_cons (ps_if (pt_not (pt_truth (pe_fld (pv 0) rfl) (by intro _; rfl)))
    (pss_one (ps_ret pe_non))
    pss_nil)
    (pss_one (ps_ret (pe_ix ix_tup (pe_ix ix_list (pe_fld (pv 0) rfl) (pe_un un_neg pe_int) (fun _ _ => rfl)) pe_int (fun _ _ => rfl))))), ?_⟩)
  obtain ⟨_, rfl, n, ll, ds, lv, rfl, ⟨⟨dx, hA⟩, hL, hV, hN⟩, hl, h⟩ := h
  walk_at "rf"
  cases lv with
  | nil =>
    cases ds with
    | cons d ds => exact hV.elim
    | nil =>
      refine ⟨false, .inl ⟨_, SqL.of hL, rfl⟩, ?_⟩
      walk_at "rf"
      exact h
  | cons l lv =>
    cases ds with
    | nil => exact hV.elim
    | cons d ds =>
      rw [rev_map_snoc] at hL
      refine ⟨true, .inl ⟨_, SqL.of hL, ?_⟩, ?_⟩
      · simp
      walk_at "rf"
      refine r_ixL (SqL.of hL) at_last ?_
      walk_at "rf"
      exact r_ixT (SqT.of hV.1) rfl h
theorem ok_Nest_grow (F : FunD K "grow" "Nest.grow" (defArgs s_Nest_grow) (defBody s_Nest_grow) (defScope s_Nest_grow) [] [] (meAd "Nest" "grow" K) fd) (nb : Nm w K mg) : Met P w K mg base 1 (C_Nest K) "grow" (sp_Nest_grow K) [] := by
  refine metD F nb.cl_Nest nb.me_Nest_grow sc_Nest_grow (fun _ _ _ _ _ _ us hl => match us, hl with | [_, _], _ => rfl) len2 (fun cdv A outer s H vs Q E hr h => ⟨_, (pss_cons (ps_if (pt_cmpR op_eq (pe_callB call_len_seq (by rfl) nb.len PySem.boot_len (pa_cons (pe_fld (pv 0) rfl) pa_nil)) (pe_gc rfl nb.g_DEEPEST) (nomark _))
    (pss_one (ps_ret pe_bl))
    pss_nil)
    (pss_cons (ps_expr (pe_bm PySem.F.plainAttrs_list PySem.F.slot_list_append PySem.F.type_list_append mt_append (pe_fld (pv 0) rfl) (pa_cons (pe_tupE (pa_cons (pv 1) (pa_cons pe_dnwE pa_nil))) pa_nil)))
    (pss_one (ps_ret pe_bl)))), ?_⟩)
  obtain ⟨_, _, rfl, n, ll, ds, lv, m, rfl, rfl, ⟨⟨dx, hA⟩, hL, hV, hN⟩, hl, h1, h2⟩ := h
  have el : (ds.reverse.map fun d => V.ref d.1).length = lv.length := by rw [List.length_map, List.length_reverse, hV.len]
  walk_at "rf"
  refine ⟨ll, _, rfl, .inl (SqL.of hL), ?_⟩
  rw [el]
  walk_at "rf"
  refine r_ite (fun c => ?_) (fun c => ?_)
  · walk_at "rf"
    exact h1 (by omega)
  walk_at "rf"
  refine ⟨tyL hL, ?_⟩
  walk_at "rf"
  intro e H1 ne hE s1
  walk_at "rf"
  refine ⟨by show 2 ≤ sizeLine; decide, fun t H2 nt hT s2 => ?_⟩
  walk_at "rf"
  refine r_appE (s2 _ _ (s1 _ _ hL)) (by rw [el]; exact small1000 (by omega)) fun H3 hL3 f3 => ?_
  have et : e ≠ t := Same.ne nt hE
  have lt : ll ≠ t := Same.ne nt (s1 _ _ hL)
  have le : ll ≠ e := Same.ne ne hL
  have nt0 : H t = none := s1.free nt
  have c3 : Ch (nsOwn n ll ds) H H3 := by
    refine Ch.eb f3 (by simp [nsOwn]) ?_
    walk_at "ch"
  have hN0 := hN
  unfold nsOwn at hN
  rw [List.nodup_cons] at hN
  have nl : n ≠ ll := fun q => hN.1 (by simp [q])
  have s3 : ∀ x u, x ≠ ll → H x = some u → H3 x = some u := fun x u n z => f3.get n (s2 _ _ (s1 _ _ z))
  walk_at "rf"
  refine h2 (by omega) (t, e) H3 nt0 ne ⟨⟨dx, by walk_at "hl"⟩, by rw [rev_map_snoc]; exact hL3, ⟨by walk_at "hl", by walk_at "hl", ?_⟩, ?_⟩ c3
  · refine hV.get (o := [ll]) (fun x u z m => ?_) fun x hx q => ?_
    · by_cases q : x = ll
      · obtain ⟨xs, rfl⟩ := m (by simp [q])
        rw [q, hL] at z
        cases z
      · exact s3 x u q z
    · have e : x = ll := by simpa using q
      have := List.nodup_cons.mp hN.2
      exact this.1 (by rw [← e]; exact hx)
  · have hd : ∀ x ∈ ds.map (·.2), x ≠ e := by
      intro x hx q
      have : ∀ {ds : List (Addr × Addr)} {lv : List Lv}, LvAt H ds lv → ∀ x ∈ ds.map (·.2), ∃ u, H x = some u := by
        intro ds
        induction ds with
        | nil => intro lv _ x hx; simp at hx
        | cons d ds ih =>
          intro lv h x hx
          cases lv with
          | nil => exact h.elim
          | cons l lv =>
            rcases List.mem_cons.mp hx with q | q
            · exact ⟨_, by rw [q]; exact h.2.1⟩
            · exact ih h.2.2 x q
      obtain ⟨u, hu⟩ := this hV x hx
      rw [q, ne] at hu
      cases hu
    have hn2 := List.nodup_cons.mp hN.2
    show (n :: ll :: e :: ds.map (·.2)).Nodup
    have nn : n ≠ e := Same.ne ne hA
    refine List.nodup_cons.mpr ⟨fun q => ?_, List.nodup_cons.mpr ⟨fun q => ?_, List.nodup_cons.mpr ⟨fun q => hd e q rfl, hn2.2⟩⟩⟩
    · rcases List.mem_cons.mp q with q | q
      · exact nl q
      · rcases List.mem_cons.mp q with q | q
        · exact nn q
        · exact hN.1 (List.mem_cons_of_mem _ q)
    · rcases List.mem_cons.mp q with q | q
      · exact le q
      · exact hn2.1 q
theorem ok_Nest_shrink (F : FunD K "shrink" "Nest.shrink" (defArgs s_Nest_shrink) (defBody s_Nest_shrink) (defScope s_Nest_shrink) [] [] (meAd "Nest" "shrink" K) fd) (nb : Nm w K mg) : Met P w K mg base 1 (C_Nest K) "shrink" (sp_Nest_shrink K) [] := by
  refine metD F nb.cl_Nest nb.me_Nest_shrink sc_Nest_shrink (fun _ _ _ _ _ _ us hl => match us, hl with | [_], _ => rfl) len1 (fun cdv A outer s H vs Q E hr h => ⟨_, (pss_one (ps_expr (pe_bm0 PySem.F.plainAttrs_list PySem.F.slot_list_pop PySem.F.type_list_pop mt_pop (pe_fld (pv 0) rfl)))), ?_⟩)
  obtain ⟨_, rfl, n, ll, d, ds, l, lv, rfl, ⟨⟨dx, hA⟩, hL, hV, hN⟩, h⟩ := h
  rw [rev_map_snoc] at hL
  walk_at "rf"
  refine ⟨tyL hL, ?_⟩
  walk_at "rf"
  refine r_popE hL fun H1 hL1 f1 => ?_
  have hN' : (nsOwn n ll ds).Nodup := by
    refine hN.sublist ?_
    exact List.Sublist.cons₂ _ (List.Sublist.cons₂ _ (List.sublist_cons_self ..))
  have nl : n ≠ ll := fun q => (List.nodup_cons.mp hN).1 (by simp [q])
  walk_at "rf"
  refine h H1 ⟨⟨dx, by walk_at "hl"⟩, hL1, hV.2.2.get (o := [ll]) (Ch.eb f1 (by simp) Ch.refl) fun x hx q => ?_, hN'⟩ (Ch.eb f1 (by simp [nsOwn]) Ch.refl)
  have e : x = ll := by simpa using q
  have := (List.nodup_cons.mp (List.nodup_cons.mp hN').2).1
  exact this (by rw [← e]; exact hx)
end

/-! ### a new object: what it leaves -/
theorem mk_same {H H' : Hp} {a dx C : Addr} (ha : H a = none) (hd : H dx = none) (c : Ch [a] (upd (upd H dx (.own a)) a (.ins C dx [])) H') : Same H H' := fun x u h => by
  have h1 : x ≠ a := fun e => by rw [e, ha] at h; cases h
  have h2 : x ≠ dx := fun e => by rw [e, hd] at h; cases h
  exact c.get (by simp [h1]) (by rw [upd_ne h1, upd_ne h2]; exact h)
theorem mk_free {H : Hp} {a dx C l : Addr} (h : upd (upd H dx (.own a)) a (.ins C dx []) l = none) : H l = none := by
  by_cases e : l = a
  · rw [e, upd_same] at h
    cases h
  rw [upd_ne e] at h
  by_cases e2 : l = dx
  · rw [e2, upd_same] at h
    cases h
  rw [upd_ne e2] at h
  exact h
theorem d_counted {K : Frg} {H : Hp} {R : Addr → Hp → Prop} {E : XK} (h : ∀ a l H', H a = none → H l = none → CtAt K H' a l ct0 → Same H H' → R a H') : ∀ x dx, H x = none → H dx = none → dx ≠ x → sp_Counted___init__ K (.ref x :: ([] ++ [])) (upd (upd H dx (.own x)) x (.ins (C_Counted K) dx [])) (fun v H2 => v = .non ∧ R x H2) E := fun a dx ha hd hne =>
  ⟨_, rfl, a, dx, rfl, upd_same, fun q H' nq hN c => ⟨rfl, h a q H' ha (mk_free nq) hN (mk_same ha hd c)⟩⟩
theorem d_nest {K : Frg} {H : Hp} {R : Addr → Hp → Prop} {E : XK} (h : ∀ a l H', H a = none → H l = none → NsAt K H' a l [] [] → Same H H' → R a H') : ∀ x dx, H x = none → H dx = none → dx ≠ x → sp_Nest___init__ K (.ref x :: ([] ++ [])) (upd (upd H dx (.own x)) x (.ins (C_Nest K) dx [])) (fun v H2 => v = .non ∧ R x H2) E := fun a dx ha hd hne =>
  ⟨_, rfl, a, dx, rfl, upd_same, fun q H' nq hN c => ⟨rfl, h a q H' ha (mk_free nq) hN (mk_same ha hd c)⟩⟩

/-! ### S-expressions: single octets -/



def hexW (o : Int) : Option Int := if 48 ≤ o ∧ o ≤ 57 then some (o - 48) else if 65 ≤ o ∧ o ≤ 70 then some (o - 55) else if 97 ≤ o ∧ o ≤ 102 then some (o - 87) else none
def tmarks : List Int := [45, 46, 47, 95, 58, 42, 43, 61]
def begT (o : Int) : Bool := (decide (65 ≤ o) && decide (o ≤ 90)) || (decide (97 ≤ o) && decide (o ≤ 122)) || decide (o ∈ tmarks)
def goT (o : Int) : Bool := begT o || isDg o
def sp_hex_worth : Sp := sp1 fun a H Q _ => ∃ o : Int, a = .int o ∧ Q (optV (hexW o)) H
def sp_begins_token (K : Frg) : Sp := sp1 fun a H Q _ => ∃ o : Int, a = .int o ∧ Q (.bl (begT o)) H
def sp_goes_on_token (K : Frg) : Sp := sp1 fun a H Q _ => ∃ o : Int, a = .int o ∧ Q (.bl (goT o)) H
theorem in_ints (o : Int) : ∀ ms : List Int, inV (.int o) (ms.map V.int) = decide (o ∈ ms)
  | [] => by simp [inV]
  | m :: ms => by
    have e := in_ints o ms
    unfold inV at e ⊢
    rw [List.map_cons, List.any_cons, e]
    have q : eqV (.int m) (.int o) = decide (m = o) := by
      show (m == o) = _
      rfl
    rw [q]
    by_cases c : m = o
    · subst c
      simp
    · simp [c, Ne.symm c]
theorem in_tmarks {o : Int} : inV (.int o) (tmarks.map V.int) = decide (o ∈ tmarks) := in_ints o tmarks
section
variable {P : Program} {w : World} {K : PySem.W.Frag} {mg : Str → Option Value} {base : Heap} {f : Addr} {fd : FuncData}
theorem ok_hex_worth (F : FunD K "hex_worth" "hex_worth" (defArgs s_hex_worth) (defBody s_hex_worth) (defScope s_hex_worth) [] [] (glAd "hex_worth" K) fd) (m : mg "hex_worth" = some (.ref (glAd "hex_worth" K))) (nb : Nm w K mg) : Cal P w K mg base 1 "hex_worth" sp_hex_worth [] := by
  refine calD F m sc_hex_worth (fun _ _ _ _ _ _ us hl => match us, hl with | [_], _ => rfl) len1 (fun cdv A outer s H vs Q E hr h => ⟨_, (pss_cons (ps_if (pt_chain op_le op_le pe_int (pv 0) pe_int)
    (pss_one (ps_ret (pe_op op_sub (pv 0) pe_int)))
    pss_nil)
    (pss_cons (ps_if (pt_chain op_le op_le pe_int (pv 0) pe_int)
    (pss_one (ps_ret (pe_op op_sub (pv 0) pe_int)))
    pss_nil)
    (pss_cons (ps_if (pt_chain op_le op_le pe_int (pv 0) pe_int)
    (pss_one (ps_ret (pe_op op_sub (pv 0) pe_int)))
    pss_nil)
    (pss_one (ps_ret pe_non))))), ?_⟩)
  obtain ⟨_, rfl, o, rfl, h⟩ := h
  unfold hexW at h
  walk_at "ri"
  refine r_ifB (decide (48 ≤ o ∧ o ≤ 57)) (fun R hR => ?_) ?_
  · walk_at "rd"
    refine r_ite (fun c => ?_) (fun c => ?_)
    · have e : decide (48 ≤ o ∧ o ≤ 57) = decide (o ≤ 57) := decide_eq_decide.mpr ⟨And.right, fun q => ⟨c, q⟩⟩
      rw [e] at hR
      walk_at "rd"
      exact hR
    · rw [decide_eq_false (fun q => c q.1)] at hR
      walk_at "rd"
      exact hR
  refine r_ite (fun c => ?_) (fun c => ?_)
  · rw [if_pos c] at h
    walk_at "rd"
    exact h
  rw [if_neg c] at h
  walk_at "ri"
  refine r_ifB (decide (65 ≤ o ∧ o ≤ 70)) (fun R hR => ?_) ?_
  · walk_at "rd"
    refine r_ite (fun c => ?_) (fun c => ?_)
    · have e : decide (65 ≤ o ∧ o ≤ 70) = decide (o ≤ 70) := decide_eq_decide.mpr ⟨And.right, fun q => ⟨c, q⟩⟩
      rw [e] at hR
      walk_at "rd"
      exact hR
    · rw [decide_eq_false (fun q => c q.1)] at hR
      walk_at "rd"
      exact hR
  refine r_ite (fun c => ?_) (fun c => ?_)
  · rw [if_pos c] at h
    walk_at "rd"
    exact h
  rw [if_neg c] at h
  walk_at "ri"
  refine r_ifB (decide (97 ≤ o ∧ o ≤ 102)) (fun R hR => ?_) ?_
  · walk_at "rd"
    refine r_ite (fun c => ?_) (fun c => ?_)
    · have e : decide (97 ≤ o ∧ o ≤ 102) = decide (o ≤ 102) := decide_eq_decide.mpr ⟨And.right, fun q => ⟨c, q⟩⟩
      rw [e] at hR
      walk_at "rd"
      exact hR
    · rw [decide_eq_false (fun q => c q.1)] at hR
      walk_at "rd"
      exact hR
  refine r_ite (fun c => ?_) (fun c => ?_)
  · rw [if_pos c] at h
    walk_at "rd"
    exact h
  rw [if_neg c] at h
  walk_at "rd"
  exact h
theorem ok_begins_token (F : FunD K "begins_token" "begins_token" (defArgs s_begins_token) (defBody s_begins_token) (defScope s_begins_token) [] [] (glAd "begins_token" K) fd) (m : mg "begins_token" = some (.ref (glAd "begins_token" K))) (nb : Nm w K mg) : Cal P w K mg base 1 "begins_token" (sp_begins_token K) [] := by
  obtain ⟨v_TOKEN_MARKS, u_TOKEN_MARKS, e_TOKEN_MARKS, r_TOKEN_MARKS, k_TOKEN_MARKS⟩ := nb.g_TOKEN_MARKS
  refine calD F m sc_begins_token (fun _ _ _ _ _ _ us hl => match us, hl with | [_], _ => rfl) len1 (fun cdv A outer s H vs Q E hr h => ⟨_, (pss_one (ps_ret (pe_or (pe_chain op_le op_le pe_int (pv 0) pe_int) (pe_or (pe_chain op_le op_le pe_int (pv 0) pe_int) (pe_one (pe_cmpR op_in_seq (pv 0) (pe_gc rfl ⟨u_TOKEN_MARKS, e_TOKEN_MARKS, r_TOKEN_MARKS⟩) rfl)))))), ?_⟩)
  obtain ⟨_, rfl, o, rfl, h⟩ := h
  obtain ⟨tm, ys, rfl, hM, hE⟩ := dp_tup (k_TOKEN_MARKS H)
  have hE : ys = tmarks.map V.int := dp_ints tmarks hE
  subst hE
  have hx : begT o = ((decide (65 ≤ o) && decide (o ≤ 90)) || ((decide (97 ≤ o) && decide (o ≤ 122)) || decide (o ∈ tmarks))) := by
    unfold begT
    rw [Bool.or_assoc]
  rw [hx] at h
  clear hx
  have last : Q (.bl (decide (o ∈ tmarks))) H → rIn K false (.int o) (.ref tm) H Q := fun q => by
    refine ⟨tm, tmarks.map V.int, rfl, .inr hM, rfl, ?_, ?_⟩
    · rfl
    · rw [if_neg Bool.false_ne_true, in_tmarks]
      exact q
  walk_at "rd"
  refine r_ite (fun c => ?_) (fun c => ?_)
  · rw [decide_eq_true c, Bool.true_and] at h
    walk_at "rd"
    refine r_ite (fun c2 => ?_) (fun c2 => ?_)
    · rw [decide_eq_true c2, Bool.true_or] at h
      exact h
    rw [decide_eq_false c2, Bool.false_or] at h
    walk_at "rd"
    refine r_ite (fun c3 => ?_) (fun c3 => ?_)
    · rw [decide_eq_true c3, Bool.true_and] at h
      walk_at "rd"
      refine r_ite (fun c4 => ?_) (fun c4 => ?_)
      · rw [decide_eq_true c4, Bool.true_or] at h
        exact h
      · rw [decide_eq_false c4, Bool.false_or] at h
        walk_at "rd"
        exact last h
    · rw [decide_eq_false c3, Bool.false_and, Bool.false_or] at h
      walk_at "rd"
      exact last h
  · rw [decide_eq_false c, Bool.false_and, Bool.false_or] at h
    walk_at "rd"
    refine r_ite (fun c3 => ?_) (fun c3 => ?_)
    · rw [decide_eq_true c3, Bool.true_and] at h
      walk_at "rd"
      refine r_ite (fun c4 => ?_) (fun c4 => ?_)
      · rw [decide_eq_true c4, Bool.true_or] at h
        exact h
      · rw [decide_eq_false c4, Bool.false_or] at h
        walk_at "rd"
        exact last h
    · rw [decide_eq_false c3, Bool.false_and, Bool.false_or] at h
      walk_at "rd"
      exact last h
theorem ok_goes_on_token (F : FunD K "goes_on_token" "goes_on_token" (defArgs s_goes_on_token) (defBody s_goes_on_token) (defScope s_goes_on_token) [] [] (glAd "goes_on_token" K) fd) (m : mg "goes_on_token" = some (.ref (glAd "goes_on_token" K))) (nb : Nm w K mg) (c_is_digit : Cal P w K mg base 1 "is_digit" sp_is_digit []) (c_begins_token : Cal P w K mg base 1 "begins_token" (sp_begins_token K) []) : Cal P w K mg base 2 "goes_on_token" (sp_goes_on_token K) [] := by
  refine calD F m sc_goes_on_token (fun _ _ _ _ _ _ us hl => match us, hl with | [_], _ => rfl) len1 (fun cdv A outer s H vs Q E hr h => ⟨_, (pss_one (ps_ret (pe_or (pe_c c_begins_token hr (by decide) rfl (pa_cons (pv 0) pa_nil)) (pe_one (pe_c c_is_digit hr (by decide) rfl (pa_cons (pv 0) pa_nil)))))), ?_⟩)
  obtain ⟨_, rfl, o, rfl, h⟩ := h
  walk_at "rd"
  refine ⟨_, rfl, o, rfl, begT o, rfl, ?_⟩
  unfold goT at h
  cases c : begT o with
  | true =>
    rw [c, Bool.true_or] at h
    rw [if_pos rfl]
    exact h
  | false =>
    rw [c, Bool.false_or] at h
    rw [if_neg Bool.false_ne_true]
    walk_at "rd"
    exact ⟨_, rfl, o, rfl, h⟩
end

/-! ### the loose writer: what is lacking, how many have begun -/






/-- a list of something for each sign of a text -/
theorem r_lcS {σ : St} {H : Hp} {Q : VK} {k : Nat} {g : TG} {te : TE} {vs : List Nat} {x : Str} (e : σ[k]? = some (some (.str x))) (Pv : Addr → Nat → Hp → Prop) (h0 : ∀ D, H D = none → Pv D 0 (upd H D (.lst [])))
    (hs : ∀ (D : Addr) (i c : Nat) (H' : Hp), H D = none → x.cps[i]? = some c → Pv D i H' → g (.str ⟨#[c]⟩) (wipe σ vs) H' fun σ2 H2 => wipe σ2 vs = wipe σ vs ∧ te σ2 H2 fun y H4 => ∃ acc, H4 D = some (.lst acc) ∧ acc.length < sizeLine ∧ Pv D (i + 1) (upd H4 D (.lst (acc ++ [y]))))
    (hd : ∀ (D : Addr) (H' : Hp), H D = none → Pv D x.cps.size H' → Q (.ref D) H') : tLc (iStr (tVar k)) g tYes te vs σ H Q := by
  refine ⟨_, e, x, rfl, fun D hD => ⟨fun i m H' => m + i = x.cps.size ∧ Pv D i H', ⟨x.cps.size, rfl, h0 D hD⟩, fun i m H' hW => ?_⟩⟩
  obtain ⟨hm, p⟩ := hW
  by_cases c : i < x.cps.size
  · refine .inr ⟨c, fun H' => Pv D (i + 1) H', fun H' q => ⟨m - 1, by omega, by omega, q⟩, ?_⟩
    rintro v _ ⟨rfl, cc, hc, rfl⟩
    exact hs D i cc _ hD hc p
  · have : i = x.cps.size := by omega
    subst this
    exact .inl ⟨Nat.le_refl _, hd D H' hD p⟩
theorem in_two (k a b : Str) : inV (.str k) [.str a, .str b] = (decide (k = a) || decide (k = b)) := by
  have e : ∀ a : Str, eqV (.str a) (.str k) = decide (k = a) := fun a => by
    show (a == k) = decide (k = a)
    by_cases c : k = a
    · rw [c, decide_eq_true rfl]
      simp
    · rw [decide_eq_false c]
      exact beq_eq_false_iff_ne.mpr fun z => c z.symm
  unfold inV
  rw [List.any_cons, List.any_cons, List.any_nil, Bool.or_false, e, e]
theorem r_hex2 {te : TE} {σ : St} {H : Hp} {Q : VK} (h : te σ H fun x H1 => ∃ a : Int, x = .int a ∧ 0 ≤ a ∧ a < 256 ∧ Q (.str (hex2 a)) H1) : tHex2 te σ H Q := h
def lackK (k : Str) : Bool := decide (k ≠ "bytes") && decide (k ≠ "list")
def sp_in_ascii (K : Frg) : Sp := sp1 fun a H Q _ => ∃ x : Str, a = .str x ∧ x.cps.size ≤ 1000 ∧ ∀ (p : Addr) (H' : Hp), H p = none → H' p = some (.lst ((x.cps.toList.map fun c => ((c : Nat) : Int)).map V.int)) → Same H H' → Q (.ref p) H'
def sp_hex_digits (K : Frg) : Sp := sp1 fun a H Q _ => ∃ o : Int, a = .int o ∧ 0 ≤ o ∧ o < 256 ∧ ∀ (p : Addr) (H' : Hp), H p = none → H' p = some (.lst (([((hxd (o / 16) : Nat) : Int), ((hxd (o % 16) : Nat) : Int)] : List Int).map V.int)) → Same H H' → Q (.ref p) H'
def sp_is_lacking (K : Frg) : Sp := sp1 fun a H Q _ => ∃ (p : Addr) (k : Str) (xs : List V), a = .ref p ∧ H p = some (.tup (.str k :: xs)) ∧ ∀ H', Same H H' → Q (.bl (lackK k)) H'
def BgA (K : Frg) (H : Hp) (a : Addr) (m : Nat) : Prop := ∃ dx, H a = some (.ins (C_Begun K) dx (fs_Begun (.int (m : Nat))))
def Lacks (K : Frg) (o : List Addr) (H : Hp) (m : Nat) (E : XK) : Prop := ∀ d H', H' d = some (.xd [("what", .int (m : Nat))]) → Ch o H H' → E (.ref (C_Unwritable K)) (some d) H'
theorem lacked {K : Frg} {o o2 : List Addr} {H H1 : Hp} {m : Nat} {E : XK} (h : Lacks K o H m E) (c : Ch o2 H H1) (i : ∀ x ∈ o2, x ∈ o ∨ H x = none) : ∀ d, H1 d = none → E (.ref (C_Unwritable K)) (some d) (upd H1 d (.xd [("what", .int (m : Nat))])) := fun d nd =>
  h d _ upd_same fun x y hx hn => by
    have z := c.ch i Ch.refl x y hx hn
    rw [upd_ne (fun e => by rw [e, nd] at z; cases z)]
    exact z
theorem ev_lf {H : Hp} {v : V} {k : Str} {r : List PyData} (h : Tp H v (Ev.lf k r).dat) : ∃ p q xs, v = .ref p ∧ H p = some (.tup [.str "leaf", .ref q]) ∧ H q = some (.tup (.str k :: xs)) ∧ TpAll H xs r := by
  obtain ⟨p, ys, rfl, hp, hx⟩ := tp_tup h
  cases hx with
  | cons h1 h2 =>
    cases h1
    cases h2 with
    | cons h1 h2 =>
      cases h2
      obtain ⟨q, zs, rfl, hq, hz⟩ := tp_tup h1
      cases hz with
      | cons h1 h2 =>
        cases h1
        exact ⟨p, q, _, rfl, hp, hq, h2⟩
theorem ev_op {H : Hp} {v : V} {m : Bool} (h : Tp H v (Ev.op m).dat) : ∃ p, v = .ref p ∧ H p = some (.tup [.str "open", .str (kindOf_ m)]) := by
  obtain ⟨p, ys, rfl, hp, hx⟩ := tp_tup h
  cases hx with
  | cons h1 h2 =>
    cases h1
    cases h2 with
    | cons h1 h2 =>
      cases h1
      cases h2
      exact ⟨p, rfl, hp⟩
theorem ev_cl {H : Hp} {v : V} (h : Tp H v Ev.cl.dat) : ∃ p, v = .ref p ∧ H p = some (.tup [.str "close"]) := by
  obtain ⟨p, ys, rfl, hp, hx⟩ := tp_tup h
  cases hx with
  | cons h1 h2 =>
    cases h1
    cases h2
    exact ⟨p, rfl, hp⟩
theorem ev_ky {H : Hp} {v : V} {k : List Int} (h : Tp H v (Ev.ky k).dat) : ∃ p u, v = .ref p ∧ H p = some (.tup [.str "key", u]) := by
  obtain ⟨p, ys, rfl, hp, hx⟩ := tp_tup h
  cases hx with
  | cons h1 h2 =>
    cases h1
    cases h2 with
    | cons h1 h2 =>
      cases h2
      exact ⟨p, _, rfl, hp⟩
theorem lackS {K : Frg} {o : List Addr} {H H1 : Hp} {m : Nat} {E : XK} (h : Lacks K o H m E) (s : Same H H1) : Lacks K o H1 m E := fun d H' hd c => h d H' hd ((Ch.same s Ch.refl).trans c)
def lackE : Ev → Bool
  | .op m => m
  | .lf k _ => lackK k
  | _ => false
def cntE : Ev → Nat
  | .op _ => 1
  | .lf _ _ => 1
  | _ => 0
def sp_Begun_note (K : Frg) : Sp := sp3 fun p v g H Q E => ∃ (a : Addr) (b : V) (m : Nat) (e : Ev), p = .ref a ∧ v = b ∧ g = .ref (glAd "is_lacking" K) ∧ BgA K H a m ∧ Tp H b e.dat ∧ (lackE e = false → ∀ H', BgA K H' a (m + cntE e) → Ch [a] H H' → Q .non H') ∧ (lackE e = true → Lacks K [] H m E)
def sp_Begun___init__ (K : Frg) : Sp := sp1 fun p H Q _ => ∃ a dx, p = .ref a ∧ H a = some (.ins (C_Begun K) dx []) ∧ ∀ H', BgA K H' a 0 → Ch [a] H H' → Q .non H'
def sp_Begun__count (K : Frg) : Sp := sp3 fun p v g H Q E => ∃ (a b : Addr) (m : Nat) (k : Str) (xs : List V), p = .ref a ∧ v = .ref b ∧ g = .ref (glAd "is_lacking" K) ∧ BgA K H a m ∧ H b = some (.tup (.str k :: xs)) ∧ (lackK k = false → ∀ H', BgA K H' a (m + 1) → Ch [a] H H' → Q .non H') ∧ (lackK k = true → Lacks K [] H m E)
section
variable {P : Program} {w : World} {K : PySem.W.Frag} {mg : Str → Option Value} {base : Heap} {f : Addr} {fd : FuncData}
theorem ok_in_ascii (F : FunD K "in_ascii" "in_ascii" (defArgs s_in_ascii) (defBody s_in_ascii) (defScope s_in_ascii) [] [] (glAd "in_ascii" K) fd) (m : mg "in_ascii" = some (.ref (glAd "in_ascii" K))) (nb : Nm w K mg) : Cal P w K mg base 1 "in_ascii" (sp_in_ascii K) [] := by
  refine calD F m sc_in_ascii (fun _ _ _ _ _ _ us hl => match us, hl with | [_], _ => rfl) len1 (fun cdv A outer s H vs Q E hr h => ⟨_, (pss_one (ps_ret (pe_lc (own := [("character", 1)]) (g := gName 1) (tt := tYes) rfl sc_in_ascii.nd (pi_str (pv 0)) (blkOk_by (N := ["string", "character"]) (sc := defScope s_in_ascii) (by decide +kernel)) (fun _ _ _ _ _ => pg_name (i := 1) sc_in_ascii.nd rfl (Or.inl rfl)) (fun _ _ _ _ _ => pts_nil) (fun _ _ _ _ _ => (pe_callB call_ord (by rfl) nb.ord (by decide +kernel) (pa_cons (pv 1) pa_nil)))))), ?_⟩)
  obtain ⟨_, rfl, x, rfl, hx, h⟩ := h
  -- 0:string 1:character
  walk_at "rf"
  refine r_lcS (x := x) rfl (fun D i H' => Same H H' ∧ H' D = some (.lst (((x.cps.toList.take i).map fun c => ((c : Nat) : Int)).map V.int))) (fun D hD => ⟨same_upd hD _, by rw [List.take_zero]; exact upd_same⟩) ?_ ?_
  · rintro D i c H2 hD hc ⟨s2, g2⟩
    walk_at "rf"
    refine ⟨rfl, ?_⟩
    walk_at "rf"
    have hx2 : x.cps.toList[i]? = some c := by rw [Array.getElem?_toList]; exact hc
    have hi : i < x.cps.size := by
      have := (List.getElem?_eq_some_iff.mp hx2).1
      rwa [Array.length_toList] at this
    refine ⟨_, rfl, rfl, _, g2, small1000 (by rw [List.length_map, List.length_map, List.length_take, Array.length_toList]; omega), same_away s2 hD, ?_⟩
    rw [upd_same, List.take_succ, hx2, List.map_append, List.map_append]
    rfl
  · rintro D H2 hD ⟨s2, g2⟩
    rw [List.take_of_length_le (by rw [Array.length_toList]; exact Nat.le_refl _)] at g2
    exact h D H2 hD g2 s2
theorem ok_hex_digits (F : FunD K "hex_digits" "hex_digits" (defArgs s_hex_digits) (defBody s_hex_digits) (defScope s_hex_digits) [] [] (glAd "hex_digits" K) fd) (m : mg "hex_digits" = some (.ref (glAd "hex_digits" K))) (nb : Nm w K mg) (c_in_ascii : Cal P w K mg base 1 "in_ascii" (sp_in_ascii K) []) : Cal P w K mg base 2 "hex_digits" (sp_hex_digits K) [] := by
  refine calD F m sc_hex_digits (fun _ _ _ _ _ _ us hl => match us, hl with | [_], _ => rfl) len1 (fun cdv A outer s H vs Q E hr h => ⟨_, (pss_one (ps_ret (pe_c c_in_ascii hr (by decide) rfl (pa_cons (pe_joined1 (pe_hex2 (pv 0))) pa_nil)))), ?_⟩)
  obtain ⟨_, rfl, o, rfl, o0, o1, h⟩ := h
  walk_at "rf"
  refine r_hex2 ?_
  walk_at "rf"
  refine ⟨o, rfl, o0, o1, ?_⟩
  walk_at "rf"
  refine ⟨_, rfl, hex2 o, rfl, by show 2 ≤ 1000; decide, fun p H' n g s => ?_⟩
  exact h p H' n g s
theorem ok_is_lacking (F : FunD K "is_lacking" "is_lacking" (defArgs s_is_lacking) (defBody s_is_lacking) (defScope s_is_lacking) [] [] (glAd "is_lacking" K) fd) (m : mg "is_lacking" = some (.ref (glAd "is_lacking" K))) (nb : Nm w K mg) : Cal P w K mg base 1 "is_lacking" (sp_is_lacking K) [] := by
  refine calD F m sc_is_lacking (fun _ _ _ _ _ _ us hl => match us, hl with | [_], _ => rfl) len1 (fun cdv A outer s H vs Q E hr h => ⟨_, (pss_one (ps_ret (pe_cmpR op_notIn_seq (pe_ix ix_tup (pv 0) pe_int (fun _ _ => rfl)) (pe_tupE (pa_cons pe_str (pa_cons pe_str pa_nil))) rfl))), ?_⟩)
  obtain ⟨_, rfl, p, k, xs, rfl, hp, h⟩ := h
  walk_at "rf"
  refine r_ixT (SqT.of hp) (atI_nat (j := 0) rfl) ?_
  walk_at "rf"
  refine ⟨by show 2 ≤ sizeLine; decide, fun q H2 n2 g2 s2 => ?_⟩
  refine ⟨q, _, rfl, .inr (SqT.of g2), rfl, rfl, ?_⟩
  rw [if_pos rfl, in_two]
  have e : (!(decide (k = "bytes") || decide (k = "list"))) = lackK k := by
    unfold lackK
    by_cases c1 : k = "bytes"
    · rw [decide_eq_true c1, decide_eq_false (p := k ≠ "bytes") (fun z => z c1)]
      rfl
    · by_cases c2 : k = "list"
      · rw [decide_eq_true c2, decide_eq_false (p := k ≠ "list") (fun z => z c2), Bool.and_false, Bool.or_true]
        rfl
      · rw [decide_eq_false c1, decide_eq_false c2, decide_eq_true (p := k ≠ "bytes") c1, decide_eq_true (p := k ≠ "list") c2]
        rfl
  rw [e]
  exact h H2 s2
theorem ok_Begun___init__ (F : FunD K "__init__" "Begun.__init__" (defArgs s_Begun___init__) (defBody s_Begun___init__) (defScope s_Begun___init__) [] [] (meAd "Begun" "__init__" K) fd) (nb : Nm w K mg) : Mak P w K mg base 1 "Begun" (C_Begun K) (sp_Begun___init__ K) [] := by
  refine makD F nb.mk_Begun nb.g_Begun sc_Begun___init__ (fun _ _ _ _ _ _ us hl => match us, hl with | [_], _ => rfl) len1 (fun cdv A outer s H vs Q E hr h => ⟨_, (pss_one (ps_fld (pv 0) pe_int rfl)), ?_⟩)
  obtain ⟨_, rfl, a, dx, rfl, hA, h⟩ := h
  walk_at "rf"
  refine r_fsetE hA nb.cl_Begun nb.na_Begun__many (by decide) (in_Begun__many) fun H1 hA1 f1 => ?_
  have c3 : Ch [a] H H1 := by walk_at "ch"
  exact h H1 ⟨dx, hA1⟩ c3
theorem ok_Begun__count (F : FunD K "_count" "Begun._count" (defArgs s_Begun__count) (defBody s_Begun__count) (defScope s_Begun__count) [] [] (meAd "Begun" "_count" K) fd) (nb : Nm w K mg) (z_Unwritable : Raz P w K mg base "Unwritable" (C_Unwritable K) "what") (c_is_lacking : Cal P w K mg base 1 "is_lacking" (sp_is_lacking K) []) : MetX P w K mg base 3 (C_Begun K) "_count" (sp_Begun__count K) := by
  refine metXD F nb.cl_Begun nb.me_Begun__count sc_Begun__count (fun _ _ _ _ _ _ us hl => match us, hl with | [_, _, _], _ => rfl) len3 (fun cdv A outer s H vs Q E hr h => ⟨_, (pss_cons (ps_if (pt_val (pe_cL (i := 2) c_is_lacking hr (by decide) (pa_cons (pv 1) pa_nil)))
    (pss_one (ps_raz z_Unwritable rfl hr (by decide) rfl (takes_of rfl rfl rfl rfl) (pe_fld (pv 0) rfl)))
    pss_nil)
    (pss_one (ps_fld (pv 0) (pe_op op_add (pe_fld (pv 0) rfl) pe_int) rfl))), ?_⟩)
  obtain ⟨_, _, _, rfl, a, b, m, k, xs, rfl, rfl, rfl, ⟨dx, hA⟩, hb, hq, he⟩ := h
  walk_at "rf"
  refine r_callN rfl nb.f_is_lacking ?_
  walk_at "rf"
  refine ⟨_, rfl, b, k, xs, rfl, hb, fun H1 s1 => ⟨_, rfl, ?_⟩⟩
  cases hk : lackK k with
  | true =>
    walk_at "rf"
    exact lacked (o2 := []) (he hk) (Ch.same s1 Ch.refl) fun x hx => absurd hx (by simp)
  | false =>
    walk_at "rf"
    have hA1 := s1 _ _ hA
    walk_at "fs"
    intro H2 hA2 f2
    have k2 : Ch [a] H1 H2 := by walk_at "ch"
    exact hq hk H2 ⟨dx, hA2⟩ ((Ch.same s1 Ch.refl).trans k2)
theorem ok_Begun_note (F : FunD K "note" "Begun.note" (defArgs s_Begun_note) (defBody s_Begun_note) (defScope s_Begun_note) [] [] (meAd "Begun" "note" K) fd) (nb : Nm w K mg) (m_Begun__count : MetX P w K mg base 3 (C_Begun K) "_count" (sp_Begun__count K)) : MetX P w K mg base 4 (C_Begun K) "note" (sp_Begun_note K) := by
  refine metXD F nb.cl_Begun nb.me_Begun_note sc_Begun_note (fun _ _ _ _ _ _ us hl => match us, hl with | [_, _, _], _ => rfl) len3 (fun cdv A outer s H vs Q E hr h => ⟨_, (pss_one (ps_if (pt_cmpR op_eq (pe_ix ix_tup (pv 1) pe_int (fun _ _ => rfl)) pe_str (nomark _))
    (pss_one (ps_expr (pe_mtX m_Begun__count hr (by decide) (takes_of rfl rfl rfl rfl) (pv 0) (pa_cons (pe_ix ix_tup (pv 1) pe_int (fun _ _ => rfl)) (pa_cons (pv 2) pa_nil)))))
    (pss_one (ps_if (pt_cmpR op_eq (pe_ix ix_tup (pv 1) pe_int (fun _ _ => rfl)) pe_str (nomark _))
    (pss_one (ps_expr (pe_mtX m_Begun__count hr (by decide) (takes_of rfl rfl rfl rfl) (pv 0) (pa_cons (pe_tupE (pa_cons (pe_ix ix_tup (pv 1) pe_int (fun _ _ => rfl)) (pa_cons (pe_tupE pa_nil) pa_nil))) (pa_cons (pv 2) pa_nil)))))
    pss_nil)))), ?_⟩)
  obtain ⟨_, _, _, rfl, a, b, m, e, rfl, rfl, rfl, bg, he, hq, hl⟩ := h
  obtain ⟨dx, hA⟩ := id bg
  cases e with
  | lf k r =>
    obtain ⟨p, q, xs, rfl, hp, hq2, hx⟩ := ev_lf he
    walk_at "rf"
    refine r_ixT (SqT.of hp) (atI_nat (j := 0) rfl) ?_
    walk_at "rf"
    refine r_ite (fun _ => ?_) (fun c => absurd rfl c)
    walk_at "rf"
    refine r_ixT (SqT.of hp) (atI_nat (j := 1) rfl) ?_
    walk_at "rf"
    exact ⟨_, _, _, rfl, a, q, m, k, xs, rfl, rfl, rfl, bg, hq2, fun z H' b' c' => hq z H' b' c', fun z => hl z⟩
  | op mm =>
    obtain ⟨p, rfl, hp⟩ := ev_op he
    walk_at "rf"
    refine r_ixT (SqT.of hp) (atI_nat (j := 0) rfl) ?_
    walk_at "rf"
    refine r_iteN (show ¬ ("open" : Str) = "leaf" by decide +kernel) ?_
    walk_at "rf"
    refine r_ixT (SqT.of hp) (atI_nat (j := 0) rfl) ?_
    walk_at "rf"
    refine r_ite (fun _ => ?_) (fun c => absurd rfl c)
    walk_at "rf"
    refine r_ixT (SqT.of hp) (atI_nat (j := 1) rfl) ?_
    walk_at "rf"
    refine ⟨by show 0 ≤ sizeLine; decide, fun q1 H1 n1 g1 s1 => ?_⟩
    walk_at "rf"
    refine ⟨by show 2 ≤ sizeLine; decide, fun q2 H2 n2 g2 s2 => ?_⟩
    walk_at "rf"
    have s12 := s1.trans s2
    have ek : lackK (kindOf_ mm) = mm := by cases mm <;> decide +kernel
    refine ⟨_, _, _, rfl, a, q2, m, kindOf_ mm, _, rfl, rfl, rfl, ⟨dx, s12 _ _ hA⟩, g2, fun z H' b' c' => hq (ek.symm.trans z) H' b' ((Ch.same s12 Ch.refl).trans c'), fun z => lackS (hl (ek.symm.trans z)) s12⟩
  | ky k =>
    obtain ⟨p, u, rfl, hp⟩ := ev_ky he
    walk_at "rf"
    refine r_ixT (SqT.of hp) (atI_nat (j := 0) rfl) ?_
    walk_at "rf"
    refine r_iteN (show ¬ ("key" : Str) = "leaf" by decide +kernel) ?_
    walk_at "rf"
    refine r_ixT (SqT.of hp) (atI_nat (j := 0) rfl) ?_
    walk_at "rf"
    refine r_iteN (show ¬ ("key" : Str) = "open" by decide +kernel) ?_
    walk_at "rf"
    exact hq rfl H bg Ch.refl
  | cl =>
    obtain ⟨p, rfl, hp⟩ := ev_cl he
    walk_at "rf"
    refine r_ixT (SqT.of hp) (atI_nat (j := 0) rfl) ?_
    walk_at "rf"
    refine r_iteN (show ¬ ("close" : Str) = "leaf" by decide +kernel) ?_
    walk_at "rf"
    refine r_ixT (SqT.of hp) (atI_nat (j := 0) rfl) ?_
    walk_at "rf"
    refine r_iteN (show ¬ ("close" : Str) = "open" by decide +kernel) ?_
    walk_at "rf"
    exact hq rfl H bg Ch.refl
end

/-! ### the loose writer: atoms -/




def isTk : List Int → Bool
  | [] => false
  | o :: r => begT o && (o :: r).all goT
def qEsc (o : Int) : List Int := if o = 34 ∨ o = 92 then [92, o] else [o]
def hx2 (o : Int) : List Int := [((hxd (o / 16) : Nat) : Int), ((hxd (o % 16) : Nat) : Int)]
def quoO (os : List Int) : List Int := 34 :: (os.flatMap qEsc ++ [34])
def hexO (os : List Int) : List Int := 35 :: (os.flatMap hx2 ++ [35])
def plainO (os : List Int) : Bool := os.all fun o => decide (32 ≤ o) && decide (o ≤ 126)
def looseO (os : List Int) : List Int := if isTk os = true then os else if plainO os = true then quoO os else hexO os
def Oc (os : List Int) : Prop := os.length ≤ 300 ∧ ∀ c ∈ os, 0 ≤ c ∧ c ≤ 255
def OutN (H : Hp) (xs : List Int) (Q : VK) : Prop := ∀ (p : Addr) (H' : Hp), H p = none → H' p = some (.lst (xs.map V.int)) → Same H H' → Q (.ref p) H'
theorem qesc_len : ∀ os : List Int, (os.flatMap qEsc).length ≤ 2 * os.length
  | [] => Nat.le_refl _
  | o :: os => by
    have := qesc_len os
    rw [List.flatMap_cons, List.length_append, List.length_cons]
    have e : (qEsc o).length ≤ 2 := by
      unfold qEsc
      split
      · show 2 ≤ 2; decide
      · show 1 ≤ 2; decide
    omega
theorem hx2_len : ∀ os : List Int, (os.flatMap hx2).length = 2 * os.length
  | [] => rfl
  | o :: os => by
    have := hx2_len os
    rw [List.flatMap_cons, List.length_append, List.length_cons, this]
    show 2 + _ = _
    omega
theorem same_but48 {H H1 H2 : Hp} {q : Addr} (s : Same H H1) (nq : H q = none) (k : ∀ b, b ≠ q → H2 b = H1 b) : Same H H2 := fun b u z => by
  rw [k b (fun e => by rw [e, nq] at z; cases z)]
  exact s b u z
theorem same_put48 {H H1 : Hp} {q : Addr} {o : HO} (s : Same H H1) (nq : H q = none) : Same H (upd H1 q o) := same_but48 s nq fun _ h => upd_ne h
def sp__can_be_token (K : Frg) : Sp := sp1 fun a H Q _ => ∃ (p : Addr) (os : List Int), a = .ref p ∧ H p = some (.tup (os.map V.int)) ∧ os.length ≤ 300 ∧ ∀ H', Same H H' → Q (.bl (isTk os)) H'
def sp__quoted (K : Frg) : Sp := sp1 fun a H Q _ => ∃ (p : Addr) (os : List Int), a = .ref p ∧ H p = some (.tup (os.map V.int)) ∧ Oc os ∧ OutN H (quoO os) Q
def sp__hexadecimal (K : Frg) : Sp := sp1 fun a H Q _ => ∃ (p : Addr) (os : List Int), a = .ref p ∧ H p = some (.tup (os.map V.int)) ∧ Oc os ∧ OutN H (hexO os) Q
def sp_loose_octets (K : Frg) : Sp := sp1 fun a H Q _ => ∃ (p : Addr) (os : List Int), a = .ref p ∧ H p = some (.tup (os.map V.int)) ∧ Oc os ∧ OutN H (looseO os) Q
section
variable {P : Program} {w : World} {K : PySem.W.Frag} {mg : Str → Option Value} {base : Heap} {f : Addr} {fd : FuncData}
theorem ok__can_be_token (F : FunD K "_can_be_token" "_can_be_token" (defArgs s__can_be_token) (defBody s__can_be_token) (defScope s__can_be_token) [] [] (glAd "_can_be_token" K) fd) (m : mg "_can_be_token" = some (.ref (glAd "_can_be_token" K))) (nb : Nm w K mg) (c_begins_token : Cal P w K mg base 1 "begins_token" (sp_begins_token K) []) (c_goes_on_token : Cal P w K mg base 2 "goes_on_token" (sp_goes_on_token K) []) : Cal P w K mg base 3 "_can_be_token" (sp__can_be_token K) [] := by
  refine calD F m sc__can_be_token (fun _ _ _ _ _ _ us hl => match us, hl with | [_], _ => rfl) len1 (fun cdv A outer s H vs Q E hr h => ⟨_, (pss_one (ps_ret (pe_and (pe_cmpR op_gt (pe_callB call_len_seq (by rfl) nb.len PySem.boot_len (pa_cons (pv 0) pa_nil)) pe_int (nomark _)) (pe_and (pe_c c_begins_token hr (by decide) rfl (pa_cons (pe_ix ix_tup (pv 0) pe_int (fun _ _ => rfl)) pa_nil)) (pe_one (pe_callB (cr_all rfl) (by rfl) nb.all (by decide +kernel) (pa_cons (pe_lc (own := [("octet", 1)]) (g := gName 1) (tt := tYes) rfl sc__can_be_token.nd (pi_tup (pv 0)) (blkOk_by (N := ["octets", "octet"]) (sc := defScope s__can_be_token) (by decide +kernel)) (fun _ _ _ _ _ => pg_name (i := 1) sc__can_be_token.nd rfl (Or.inl rfl)) (fun _ _ _ _ _ => pts_nil) (fun _ _ _ _ _ => (pe_c c_goes_on_token hr (by decide) rfl (pa_cons (pv 1) pa_nil)))) pa_nil))))))), ?_⟩)
  obtain ⟨_, rfl, p, os, rfl, hp, hl, h⟩ := h
  walk_at "rf"
  refine ⟨p, _, rfl, .inr (SqT.of hp), ?_⟩
  rw [List.length_map]
  walk_at "rf"
  cases os with
  | nil =>
    rw [if_neg (by decide)]
    exact h H fun _ _ z => z
  | cons o r =>
  rw [if_pos (by rw [decide_eq_true (by rw [List.length_cons]; omega)])]
  walk_at "rf"
  refine r_ixT (SqT.of hp) (atI_nat (j := 0) rfl) ?_
  walk_at "rf"
  refine ⟨_, rfl, o, rfl, ?_⟩
  refine ⟨begT o, rfl, ?_⟩
  cases cb : begT o with
  | false =>
    rw [if_neg (by decide)]
    have h := h H fun _ _ z => z
    rw [show isTk (o :: r) = false by (show (begT o && _) = false; rw [cb]; rfl)] at h
    exact h
  | true =>
    rw [if_pos rfl]
    have ei : isTk (o :: r) = (o :: r).all goT := by
      show (begT o && _) = _
      rw [cb, Bool.true_and]
    rw [ei] at h
    generalize o :: r = os at h hp hl
    walk_at "rf"
    refine ⟨p, rfl, ⟨_, SqT.of hp⟩, fun D nD => ?_⟩
    refine lc_tup (xs := os.map V.int) (fun k H' => Same H H' ∧ H' D = some (.lst (((os.take k).map goT).map V.bl))) ⟨same_upd nD _, upd_same⟩ (fun i H' _ hh => SqT.of (hh.1 _ _ hp)) ?_ ?_
    · rintro k x H2 hx ⟨s2, g2⟩
      obtain ⟨c, hk, rfl, e⟩ := ints_get hx
      walk_at "rf"
      refine ⟨rfl, ?_⟩
      walk_at "rf"
      refine ⟨_, rfl, c, rfl, ?_⟩
      refine ⟨_, g2, small1000 (by rw [List.length_map, List.length_map, List.length_take]; omega), same_away s2 nD, ?_⟩
      rw [upd_same, e, List.map_append, List.map_append]
      rfl
    · rintro H2 ⟨s2, g2⟩
      rw [List.length_map, List.take_length] at g2
      walk_at "rf"
      refine ⟨D, _, rfl, SqL.of g2, ?_⟩
      rw [show (os.map goT).all id = os.all goT by rw [List.all_map]; rfl]
      exact h H2 s2
theorem ok__quoted (F : FunD K "_quoted" "_quoted" (defArgs s__quoted) (defBody s__quoted) (defScope s__quoted) [] [] (glAd "_quoted" K) fd) (m : mg "_quoted" = some (.ref (glAd "_quoted" K))) (nb : Nm w K mg) : Cal P w K mg base 1 "_quoted" (sp__quoted K) [] := by
  refine calD F m sc__quoted (fun _ _ _ _ _ _ us hl => match us, hl with | [_], _ => rfl) len1 (fun cdv A outer s H vs Q E hr h => ⟨_, (pss_cons (ps_set (i := 1) sc__quoted.nd rfl (Or.inl rfl) (pe_lstE (pa_cons (pe_gc rfl nb.g_QUOTE) pa_nil)))
    (pss_cons (ps_for PassesOwn.never rfl (pi_tup (pv 0)) (pg_name (i := 2) sc__quoted.nd rfl (Or.inl rfl))
    (pss_cut (ps_if (pt_cmpR op_in_seq (pv 2) (pe_tupE (pa_cons (pe_gc rfl nb.g_QUOTE) (pa_cons (pe_gc rfl nb.g_BACKSLASH) pa_nil))) rfl)
    (pss_one (ps_expr (pe_bm PySem.F.plainAttrs_list PySem.F.slot_list_append PySem.F.type_list_append mt_append (pv 1) (pa_cons (pe_gc rfl nb.g_BACKSLASH) pa_nil))))
    pss_nil)
    (pss_one (ps_expr (pe_bm PySem.F.plainAttrs_list PySem.F.slot_list_append PySem.F.type_list_append mt_append (pv 1) (pa_cons (pv 2) pa_nil))))))
    (pss_cons (ps_expr (pe_bm PySem.F.plainAttrs_list PySem.F.slot_list_append PySem.F.type_list_append mt_append (pv 1) (pa_cons (pe_gc rfl nb.g_QUOTE) pa_nil)))
    (pss_one (ps_ret (pv 1)))))), ?_⟩)
  obtain ⟨_, rfl, p, os, rfl, hp, ho, h⟩ := h
  -- 0:octets 1:written 2:octet
  have hol := ho.1
  walk_at "rf"
  refine ⟨by show 1 ≤ sizeLine; decide, fun q H1 nq gq s1 => ?_⟩
  walk_at "rf"
  refine ⟨p, rfl, ⟨_, SqT.of (s1 _ _ hp)⟩, ?_⟩
  refine r_eachT (xs := os.map V.int) (fun i σ H' => Same H H' ∧ H' q = some (.lst ((34 :: (os.take i).flatMap qEsc).map V.int)) ∧ ∃ y : Option V, σ = [some (.ref p), some (.ref q), y]) ⟨s1, gq, _, rfl⟩ (fun i σ H' hh => SqT.of (hh.1 _ _ hp)) ?_ ?_
  · rintro i x σ H2 hx ⟨s2, g2, y, rfl⟩
    obtain ⟨o, hi, rfl, et⟩ := ints_get hx
    have hl : (34 :: (os.take i).flatMap qEsc).length ≤ 601 := by
      have := qesc_len (os.take i)
      rw [List.length_take] at this
      rw [List.length_cons]
      omega
    walk_at "rg"
    refine r_cut (fun σ H' => Same H H' ∧ H' q = some (.lst ((34 :: ((os.take i).flatMap qEsc ++ if o = 34 ∨ o = 92 then [92] else [])).map V.int)) ∧ σ = [some (.ref p), some (.ref q), some (.int o)]) ?_ ?_
    · walk_at "rf"
      refine ⟨by show 2 ≤ sizeLine; decide, fun q3 H3 n3 g3 s3 => ?_⟩
      have g3 : H3 q3 = some (.tup (([34, 92] : List Int).map V.int)) := g3
      refine ⟨q3, _, rfl, .inr (SqT.of g3), rfl, rfl, ?_⟩
      rw [if_neg Bool.false_ne_true, in_ints]
      walk_at "rf"
      by_cases c : o = 34 ∨ o = 92
      · rw [if_pos (by rw [decide_eq_true (by simpa using c)])]
        walk_at "rf"
        refine ⟨tyL (s3 _ _ g2), ?_⟩
        walk_at "rf"
        refine r_appE (s3 _ _ g2) (small1000 (by rw [List.length_map]; omega)) fun H4 g4 f4 => ?_
        refine ⟨same_but48 (s2.trans s3) nq f4.1, ?_, rfl⟩
        rw [if_pos c, g4, map_snoc]
        rfl
      · rw [if_neg (by rw [decide_eq_false (by simpa using c)]; decide)]
        walk_at "rf"
        refine ⟨s2.trans s3, ?_, rfl⟩
        rw [if_neg c, List.append_nil]
        exact s3 _ _ g2
    rintro σ H3 ⟨s3, g3, rfl⟩
    have hl3 : (34 :: ((os.take i).flatMap qEsc ++ if o = 34 ∨ o = 92 then [92] else [])).length ≤ 602 := by
      rw [List.length_cons, List.length_append]
      rw [List.length_cons] at hl
      split
      · show _ + 1 + 1 ≤ _
        omega
      · show _ + 0 + 1 ≤ _
        omega
    walk_at "rf"
    refine ⟨tyL g3, ?_⟩
    walk_at "rf"
    refine r_appE g3 (small1000 (by rw [List.length_map]; omega)) fun H4 g4 f4 => ?_
    refine ⟨same_but48 s3 nq f4.1, ?_, _, rfl⟩
    rw [g4, et, map_snoc, List.flatMap_append]
    have eq1 : [o].flatMap qEsc = qEsc o := by rw [List.flatMap_cons, List.flatMap_nil, List.append_nil]
    rw [eq1]
    unfold qEsc
    by_cases c : o = 34 ∨ o = 92
    · rw [if_pos c, if_pos c]
      simp
    · rw [if_neg c, if_neg c]
      simp
  · rintro σ H2 ⟨s2, g2, y, rfl⟩
    rw [List.length_map, List.take_length] at g2
    have hl : (34 :: os.flatMap qEsc).length ≤ 601 := by
      have := qesc_len os
      rw [List.length_cons]
      omega
    walk_at "rf"
    refine ⟨tyL g2, ?_⟩
    walk_at "rf"
    refine r_appE g2 (small1000 (by rw [List.length_map]; omega)) fun H3 g3 f3 => ?_
    walk_at "rf"
    exact h q H3 nq (by rw [g3, map_snoc]; rfl) (same_but48 s2 nq f3.1)
theorem ok__hexadecimal (F : FunD K "_hexadecimal" "_hexadecimal" (defArgs s__hexadecimal) (defBody s__hexadecimal) (defScope s__hexadecimal) [] [] (glAd "_hexadecimal" K) fd) (m : mg "_hexadecimal" = some (.ref (glAd "_hexadecimal" K))) (nb : Nm w K mg) (c_hex_digits : Cal P w K mg base 2 "hex_digits" (sp_hex_digits K) []) : Cal P w K mg base 3 "_hexadecimal" (sp__hexadecimal K) [] := by
  refine calD F m sc__hexadecimal (fun _ _ _ _ _ _ us hl => match us, hl with | [_], _ => rfl) len1 (fun cdv A outer s H vs Q E hr h => ⟨_, (pss_cons (ps_set (i := 1) sc__hexadecimal.nd rfl (Or.inl rfl) (pe_lstE (pa_cons (pe_gc rfl nb.g_HASH) pa_nil)))
    (pss_cons (ps_for PassesOwn.never rfl (pi_tup (pv 0)) (pg_name (i := 2) sc__hexadecimal.nd rfl (Or.inl rfl))
    (pss_one (ps_expr (pe_bm PySem.F.plainAttrs_list PySem.F.slot_list_extend PySem.F.type_list_extend mt_extend (pv 1) (pa_cons (pe_c c_hex_digits hr (by decide) rfl (pa_cons (pv 2) pa_nil)) pa_nil)))))
    (pss_cons (ps_expr (pe_bm PySem.F.plainAttrs_list PySem.F.slot_list_append PySem.F.type_list_append mt_append (pv 1) (pa_cons (pe_gc rfl nb.g_HASH) pa_nil)))
    (pss_one (ps_ret (pv 1)))))), ?_⟩)
  obtain ⟨_, rfl, p, os, rfl, hp, ho, h⟩ := h
  have hol := ho.1
  walk_at "rf"
  refine ⟨by show 1 ≤ sizeLine; decide, fun q H1 nq gq s1 => ?_⟩
  walk_at "rf"
  refine ⟨p, rfl, ⟨_, SqT.of (s1 _ _ hp)⟩, ?_⟩
  refine r_eachT (xs := os.map V.int) (fun i σ H' => Same H H' ∧ H' q = some (.lst ((35 :: (os.take i).flatMap hx2).map V.int)) ∧ ∃ y : Option V, σ = [some (.ref p), some (.ref q), y]) ⟨s1, gq, _, rfl⟩ (fun i σ H' hh => SqT.of (hh.1 _ _ hp)) ?_ ?_
  · rintro i x σ H2 hx ⟨s2, g2, y, rfl⟩
    obtain ⟨o, hi, rfl, et⟩ := ints_get hx
    obtain ⟨o0, o1⟩ := ho.2 o (List.mem_of_getElem? hi)
    have hl : (35 :: (os.take i).flatMap hx2).length ≤ 601 := by
      have := hx2_len (os.take i)
      rw [List.length_take] at this
      rw [List.length_cons]
      omega
    walk_at "rf"
    refine ⟨tyL g2, ?_⟩
    walk_at "rf"
    refine ⟨_, rfl, o, rfl, o0, by omega, fun q3 H3 n3 g3 s3 => ?_⟩
    walk_at "rf"
    refine ⟨q, q3, _, _, rfl, rfl, s3 _ _ g2, g3, Nat.le_of_lt (small1000 (by rw [List.length_map]; show _ + 2 ≤ _; omega)), same_put48 (s2.trans s3) nq, ?_, _, rfl⟩
    rw [upd_same, et, List.flatMap_append, ← List.map_append]
    have eq1 : [o].flatMap hx2 = hx2 o := by rw [List.flatMap_cons, List.flatMap_nil, List.append_nil]
    rw [eq1]
    rfl
  · rintro σ H2 ⟨s2, g2, y, rfl⟩
    rw [List.length_map, List.take_length] at g2
    have hl : (35 :: os.flatMap hx2).length ≤ 601 := by
      have := hx2_len os
      rw [List.length_cons]
      omega
    walk_at "rf"
    refine ⟨tyL g2, ?_⟩
    walk_at "rf"
    refine r_appE g2 (small1000 (by rw [List.length_map]; omega)) fun H3 g3 f3 => ?_
    walk_at "rf"
    exact h q H3 nq (by rw [g3, map_snoc]; rfl) (same_but48 s2 nq f3.1)
theorem ok_loose_octets (F : FunD K "loose_octets" "loose_octets" (defArgs s_loose_octets) (defBody s_loose_octets) (defScope s_loose_octets) [] [] (glAd "loose_octets" K) fd) (m : mg "loose_octets" = some (.ref (glAd "loose_octets" K))) (nb : Nm w K mg) (c__can_be_token : Cal P w K mg base 3 "_can_be_token" (sp__can_be_token K) []) (c__quoted : Cal P w K mg base 1 "_quoted" (sp__quoted K) []) (c__hexadecimal : Cal P w K mg base 3 "_hexadecimal" (sp__hexadecimal K) []) : Cal P w K mg base 4 "loose_octets" (sp_loose_octets K) [] := by
  refine calD F m sc_loose_octets (fun _ _ _ _ _ _ us hl => match us, hl with | [_], _ => rfl) len1 (fun cdv A outer s H vs Q E hr h => ⟨_, (pss_cons (ps_if (pt_val (pe_c c__can_be_token hr (by decide) rfl (pa_cons (pv 0) pa_nil)))
    (pss_one (ps_ret (pe_callTy call_list_ofE (by rfl) nb.list (by decide +kernel) (pa_cons (pv 0) pa_nil))))
    pss_nil)
    (pss_cons (ps_if (pt_val (pe_callB (cr_all rfl) (by rfl) nb.all (by decide +kernel) (pa_cons (pe_lc (own := [("octet", 1)]) (g := gName 1) (tt := tYes) rfl sc_loose_octets.nd (pi_tup (pv 0)) (blkOk_by (N := ["octets", "octet"]) (sc := defScope s_loose_octets) (by decide +kernel)) (fun _ _ _ _ _ => pg_name (i := 1) sc_loose_octets.nd rfl (Or.inl rfl)) (fun _ _ _ _ _ => pts_nil) (fun _ _ _ _ _ => (pe_chain op_le op_le (pe_gc rfl nb.g_FIRST_PLAIN) (pv 1) (pe_gc rfl nb.g_LAST_PLAIN)))) pa_nil)))
    (pss_one (ps_ret (pe_c c__quoted hr (by decide) rfl (pa_cons (pv 0) pa_nil))))
    pss_nil)
    (pss_one (ps_ret (pe_c c__hexadecimal hr (by decide) rfl (pa_cons (pv 0) pa_nil)))))), ?_⟩)
  obtain ⟨_, rfl, p, os, rfl, hp, ho, h⟩ := h
  walk_at "rf"
  refine ⟨_, rfl, p, os, rfl, hp, ho.1, fun H1 s1 => ⟨_, rfl, ?_⟩⟩
  have hp1 := s1 _ _ hp
  unfold looseO at h
  cases ct : isTk os with
  | true =>
    rw [if_pos rfl]
    rw [if_pos ct] at h
    walk_at "rf"
    refine r_toLt (SqT.of hp1) fun r H3 n3 g3 s3 => ?_
    exact h r H3 (s1.free n3) g3 (s1.trans s3)
  | false =>
    rw [if_neg (by decide)]
    rw [if_neg (by rw [ct]; decide)] at h
    walk_at "rf"
    refine ⟨p, rfl, ⟨_, SqT.of hp1⟩, fun D nD => ?_⟩
    refine lc_tup (xs := os.map V.int) (fun k H' => Same H1 H' ∧ H' D = some (.lst ((os.take k).map fun o => V.bl (decide (32 ≤ o) && decide (o ≤ 126))))) ⟨same_upd nD _, upd_same⟩ (fun i H' _ hh => SqT.of (hh.1 _ _ hp1)) ?_ ?_
    · rintro k x H2 hx ⟨s2, g2⟩
      obtain ⟨c, hk, rfl, e⟩ := ints_get hx
      walk_at "rf"
      refine ⟨rfl, ?_⟩
      walk_at "rf"
      have hol := ho.1
      have fin : ∀ b : Bool, b = (decide (32 ≤ c) && decide (c ≤ 126)) → ∃ acc, H2 D = some (.lst acc) ∧ acc.length < sizeLine ∧ Same H1 (upd H2 D (.lst (acc ++ [V.bl b]))) ∧ upd H2 D (.lst (acc ++ [V.bl b])) D = some (.lst ((os.take (k + 1)).map fun o => V.bl (decide (32 ≤ o) && decide (o ≤ 126)))) := fun b eb => by
        refine ⟨_, g2, small1000 (by rw [List.length_map, List.length_take]; omega), same_away s2 nD, ?_⟩
        rw [upd_same, e, List.map_append, eb]
        rfl
      by_cases c1 : 32 ≤ c
      · rw [if_pos (by rw [decide_eq_true c1])]
        walk_at "rf"
        exact fin _ (by rw [decide_eq_true c1]; rfl)
      · rw [if_neg (by rw [decide_eq_false c1]; decide)]
        exact fin _ (by rw [decide_eq_false c1]; rfl)
    · rintro H2 ⟨s2, g2⟩
      rw [List.length_map, List.take_length] at g2
      walk_at "rf"
      refine ⟨D, os.map fun o => decide (32 ≤ o) && decide (o ≤ 126), rfl, SqL.of (by rw [g2, List.map_map]; rfl), ⟨_, rfl, ?_⟩⟩
      have ep : ((os.map fun o => decide (32 ≤ o) && decide (o ≤ 126)).all id) = plainO os := by
        rw [List.all_map]
        rfl
      rw [ep]
      cases cp : plainO os with
      | true =>
        rw [if_pos cp] at h
        rw [if_pos rfl]
        walk_at "rf"
        exact ⟨_, rfl, p, os, rfl, s2 _ _ hp1, ho, fun r H3 n3 g3 s3 => h r H3 ((s1.trans s2).free n3) g3 ((s1.trans s2).trans s3)⟩
      | false =>
        rw [if_neg (by rw [cp]; decide)] at h
        rw [if_neg (by decide)]
        walk_at "rf"
        exact ⟨_, rfl, p, os, rfl, s2 _ _ hp1, ho, fun r H3 n3 g3 s3 => h r H3 ((s1.trans s2).free n3) g3 ((s1.trans s2).trans s3)⟩
end

/-! ### the loose writer, event by event -/



/-- how many values have begun, of each open list whether it is empty yet (the innermost first) -/
structure Sl where
  m : Nat
  st : List Bool
def sl0 : Sl := ⟨0, []⟩
def SlA (K : Frg) (H : Hp) (a b l : Addr) (s : Sl) : Prop := ∃ dx, H a = some (.ins (C_SexpLoose K) dx (fs_SexpLoose (.ref b) (.ref l))) ∧ BgA K H b s.m ∧ H l = some (.lst (s.st.reverse.map V.bl)) ∧ [a, b, l].Nodup
def befO : List Bool → List Int
  | false :: _ => [32]
  | _ => []
def befS : List Bool → List Bool
  | true :: r => false :: r
  | st => st
def slO (s : Sl) : Ev → List Int
  | .cl => [41]
  | .op _ => befO s.st ++ [40]
  | .lf _ [.tuple xs] => befO s.st ++ looseO (xs.map fun d => match d with | .int i => i | _ => 0)
  | _ => []
def slS (s : Sl) (e : Ev) : Sl := match e with
  | .cl => ⟨s.m, s.st.tail⟩
  | .op _ => ⟨s.m + 1, true :: befS s.st⟩
  | .lf _ _ => ⟨s.m + 1, befS s.st⟩
  | .ky _ => s
/-- what the writer may be given -/
def SlOk (s : Sl) : Ev → Prop
  | .cl => s.st ≠ []
  | .op m => m = false ∧ s.st.length ≤ 40
  | .lf k r => k = "bytes" ∧ ∃ os, r = [kd os] ∧ Oc os
  | .ky _ => False
theorem loose_len {os : List Int} (h : Oc os) : (looseO os).length ≤ 602 := by
  have := h.1
  unfold looseO
  split
  · omega
  · split
    · have := qesc_len os
      show (os.flatMap qEsc ++ [34]).length + 1 ≤ _
      rw [List.length_append]
      show _ + 1 + 1 ≤ _
      omega
    · have := hx2_len os
      show (os.flatMap hx2 ++ [35]).length + 1 ≤ _
      rw [List.length_append]
      show _ + 1 + 1 ≤ _
      omega
theorem befO_two (X : List Bool) : befO X = [] ∨ befO X = [32] := by
  cases X with
  | nil => exact .inl rfl
  | cons b X =>
    cases b
    · exact .inr rfl
    · exact .inl rfl
theorem slO_lf (s : Sl) (os : List Int) : slO s (.lf "bytes" [kd os]) = befO s.st ++ looseO os := by
  show befO s.st ++ looseO ((os.map PyData.int).map fun d => match d with | .int i => i | _ => 0) = _
  rw [List.map_map, show ((fun d : PyData => match d with | .int i => i | _ => 0) ∘ PyData.int) = id from rfl, List.map_id]
theorem befS_len (X : List Bool) : (befS X).length = X.length := by
  cases X with
  | nil => rfl
  | cons b X => cases b <;> rfl
/-- list + list -/
theorem r_catB {a b : Addr} {xs ys : List Int} {H : Hp} {Q : VK} (h1 : H a = some (.lst (xs.map V.int))) (h2 : H b = some (.lst (ys.map V.int))) (hl : xs.length + ys.length ≤ 16700000) (h : ∀ p H', H p = none → H' p = some (.lst ((xs ++ ys).map V.int)) → Same H H' → Q (.ref p) H') : rCat (.ref a) (.ref b) H Q :=
  ⟨a, b, _, _, rfl, rfl, h1, h2, Nat.le_trans (by rw [List.length_map, List.length_map]; exact hl) (by decide : 16700000 ≤ sizeLine), fun p hp => h p _ hp (by rw [upd_same, cat_ints]) (same_upd hp _)⟩
def sp_SexpLoose___init__ (K : Frg) : Sp := sp1 fun p H Q _ => ∃ a dx, p = .ref a ∧ H a = some (.ins (C_SexpLoose K) dx []) ∧ ∀ b l H', H b = none → H l = none → SlA K H' a b l sl0 → Ch [a] H H' → Q .non H'
def sp_SexpLoose__before_item (K : Frg) : Sp := sp1 fun p H Q _ => ∃ a b l s, p = .ref a ∧ SlA K H a b l s ∧ ∀ (q : Addr) (H' : Hp), H q = none → H' q = some (.lst ((befO s.st).map V.int)) → SlA K H' a b l ⟨s.m, befS s.st⟩ → Ch [a, b, l] H H' → Q (.ref q) H'
def sp_SexpLoose_take (K : Frg) : Sp := sp2 fun p v H Q E => ∃ (a b l : Addr) (s : Sl) (e : Ev), p = .ref a ∧ SlA K H a b l s ∧ Tp H v e.dat ∧ (lackE e = true → Lacks K [] H s.m E) ∧ (lackE e = false → SlOk s e ∧ ∀ (q : Addr) (H' : Hp), H q = none → H' q = some (.lst ((slO s e).map V.int)) → SlA K H' a b l (slS s e) → Ch [a, b, l] H H' → Q (.ref q) H')
theorem BgA.get {K : Frg} {H H' : Hp} {a : Addr} {m : Nat} {o : List Addr} (h : BgA K H a m) (c : Ch o H H') (n : a ∉ o) : BgA K H' a m := by
  obtain ⟨dx, h1⟩ := h
  exact ⟨dx, c.get n h1⟩
theorem _root_.L2.Same.bg {K : Frg} {H H' : Hp} {a : Addr} {m : Nat} (s : Same H H') (h : BgA K H a m) : BgA K H' a m := by
  obtain ⟨dx, h1⟩ := h
  exact ⟨dx, s _ _ h1⟩
theorem ix_last {xs : List V} {y : V} : ixN (xs ++ [y]).length (-1) = some xs.length := by
  unfold ixN
  rw [if_neg (by decide), List.length_append]
  show (if -((xs.length + 1 : Nat) : Int) ≤ -1 then some ((-1 : Int) + ((xs.length + 1 : Nat) : Int)).toNat else none) = _
  rw [if_pos (by omega), show ((-1 : Int) + ((xs.length + 1 : Nat) : Int)).toNat = xs.length by omega]
theorem set_last {xs : List V} {y z : V} : (xs ++ [y]).set xs.length z = xs ++ [z] := by
  rw [List.set_append_right _ _ (Nat.le_refl _), Nat.sub_self]
  rfl
theorem ch_put {H : Hp} {l : Addr} {xs ys : List V} (hL : H l = some (.lst xs)) : Ch [l] H (upd H l (.lst ys)) := fun x y hx hn => by
  by_cases e : x = l
  · subst e
    obtain ⟨zs, rfl⟩ := hn (by simp)
    rw [hL] at hx
    cases hx
  · rw [upd_ne e]
    exact hx
theorem d_bg {K : Frg} {H : Hp} {R : Addr → Hp → Prop} {E : XK} (h : ∀ a H', H a = none → BgA K H' a 0 → Same H H' → R a H') : ∀ x dx, H x = none → H dx = none → dx ≠ x → sp_Begun___init__ K (.ref x :: ([] ++ [])) (upd (upd H dx (.own x)) x (.ins (C_Begun K) dx [])) (fun v H2 => v = .non ∧ R x H2) E := fun a dx ha hd hne =>
  ⟨_, rfl, a, dx, rfl, upd_same, fun H' hN c => ⟨rfl, h a H' ha hN (mk_same ha hd c)⟩⟩
section
variable {P : Program} {w : World} {K : PySem.W.Frag} {mg : Str → Option Value} {base : Heap} {f : Addr} {fd : FuncData}
theorem ok_SexpLoose___init__ (F : FunD K "__init__" "SexpLoose.__init__" (defArgs s_SexpLoose___init__) (defBody s_SexpLoose___init__) (defScope s_SexpLoose___init__) [] [] (meAd "SexpLoose" "__init__" K) fd) (nb : Nm w K mg) (k_Begun : Mak P w K mg base 1 "Begun" (C_Begun K) (sp_Begun___init__ K) []) : Mak P w K mg base 3 "SexpLoose" (C_SexpLoose K) (sp_SexpLoose___init__ K) [] := by
  refine makD F nb.mk_SexpLoose nb.g_SexpLoose sc_SexpLoose___init__ (fun _ _ _ _ _ _ us hl => match us, hl with | [_], _ => rfl) len1 (fun cdv A outer s H vs Q E hr h => ⟨_, (pss_cons (ps_fld (pv 0) (pe_mk0 k_Begun hr (by decide) rfl) rfl)
    (pss_one (ps_fld (pv 0) (pe_lstE pa_nil) rfl))), ?_⟩)
  obtain ⟨_, rfl, a, dx, rfl, hA, h⟩ := h
  walk_at "rf"
  refine d_bg fun b H1 nb1 hB s1 => ?_
  have ab : a ≠ b := Same.ne nb1 hA
  walk_at "rf"
  refine r_fsetE (s1 _ _ hA) nb.cl_SexpLoose nb.na_SexpLoose__begun (by decide) (in_SexpLoose__begun) fun H2 hA2 f2 => ?_
  have c2 : Ch [a] H1 H2 := by walk_at "ch"
  walk_at "rf"
  refine ⟨by show 0 ≤ sizeLine; decide, fun l H3 nl hL s3 => ?_⟩
  have al : a ≠ l := Same.ne nl hA2
  have hB3 := s3.bg (hB.get c2 (by simp [Ne.symm ab]))
  have bl : b ≠ l := fun e => by
    obtain ⟨db, q⟩ := hB.get c2 (by simp [Ne.symm ab])
    rw [e, nl] at q
    cases q
  walk_at "rf"
  refine r_fsetE (s3 _ _ hA2) nb.cl_SexpLoose nb.na_SexpLoose__are_empty (by simp) (in_SexpLoose__are_empty) fun H4 hA4 f4 => ?_
  have c4 : Ch [a] H3 H4 := by walk_at "ch"
  have c02 : Ch [a] H H2 := (Ch.same s1 Ch.refl).trans c2
  exact h b l H4 nb1 ((c02.fresh nl).resolve_left (by simp [Ne.symm al])) ⟨dx, hA4, hB3.get c4 (by simp [Ne.symm ab]), c4.get (by simp [Ne.symm al]) hL, by simp [ab, al, bl]⟩ ((Ch.same s3 c02).trans c4)
theorem ok_SexpLoose__before_item (F : FunD K "_before_item" "SexpLoose._before_item" (defArgs s_SexpLoose__before_item) (defBody s_SexpLoose__before_item) (defScope s_SexpLoose__before_item) [] [] (meAd "SexpLoose" "_before_item" K) fd) (nb : Nm w K mg) : Met P w K mg base 1 (C_SexpLoose K) "_before_item" (sp_SexpLoose__before_item K) [] := by
  refine metD F nb.cl_SexpLoose nb.me_SexpLoose__before_item sc_SexpLoose__before_item (fun _ _ _ _ _ _ us hl => match us, hl with | [_], _ => rfl) len1 (fun cdv A outer s H vs Q E hr h => ⟨_, (pss_cons (ps_if (pt_not (pt_truth (pe_fld (pv 0) rfl) (by intro _; rfl)))
    (pss_one (ps_ret (pe_lstE pa_nil)))
    pss_nil)
    (pss_cons (ps_if (pt_val (pe_ix ix_list (pe_fld (pv 0) rfl) (pe_un un_neg pe_int) (fun _ _ => rfl)))
    (pss_cons (ps_asg pe_bl (pg_sub (pe_fld (pv 0) rfl) (pe_un un_neg pe_int) set_list))
    (pss_one (ps_ret (pe_lstE pa_nil))))
    pss_nil)
    (pss_one (ps_ret (pe_lstE (pa_cons (pe_gc rfl nb.g_SPACE) pa_nil)))))), ?_⟩)
  obtain ⟨_, rfl, a, b, l, s, rfl, ⟨dx, hA, hB, hL, hN⟩, h⟩ := h
  have hN' := hN
  simp only [List.nodup_cons, List.mem_cons, List.not_mem_nil, or_false, not_or] at hN
  obtain ⟨⟨ab, al⟩, bl, _⟩ := hN
  walk_at "rf"
  cases hst : s.st with
  | nil =>
    rw [hst] at hL h
    refine ⟨false, .inl ⟨_, SqL.of hL, rfl⟩, ?_⟩
    dsimp only
    rw [if_pos (by decide)]
    walk_at "rf"
    refine ⟨by show 0 ≤ sizeLine; decide, fun q H1 nq gq s1 => ?_⟩
    exact h q H1 nq gq ⟨dx, s1 _ _ hA, s1.bg hB, s1 _ _ hL, hN'⟩ (Ch.same s1 Ch.refl)
  | cons t r =>
    rw [hst, List.reverse_cons, List.map_append] at hL
    rw [hst] at h
    have hL : H l = some (.lst (r.reverse.map V.bl ++ [V.bl t])) := hL
    refine ⟨true, .inl ⟨_, SqL.of hL, by simp⟩, ?_⟩
    dsimp only
    rw [if_neg (by decide)]
    walk_at "rf"
    refine r_ixL (SqL.of hL) at_last ?_
    walk_at "rf"
    cases t with
    | true =>
      walk_at "rf"
      refine r_setL hL ix_last ?_
      rw [set_last]
      have kL := ch_put (ys := r.reverse.map V.bl ++ [V.bl false]) hL
      have hL2 : upd H l (.lst (r.reverse.map V.bl ++ [V.bl false])) l = some (.lst (((false :: r).reverse).map V.bl)) := by
        rw [upd_same, List.reverse_cons, List.map_append]
        rfl
      generalize upd H l (.lst (r.reverse.map V.bl ++ [V.bl false])) = H1 at kL hL2 ⊢
      walk_at "rf"
      refine ⟨by show 0 ≤ sizeLine; decide, fun q H2 nq gq s2 => ?_⟩
      exact h q H2 ((kL.fresh nq).resolve_left (fun z => by rw [List.mem_singleton.mp z, hL2] at nq; cases nq)) gq ⟨dx, s2 _ _ (kL.get (by simp [al]) hA), s2.bg (hB.get kL (by simp [bl])), s2 _ _ hL2, hN'⟩ ((kL.mono (by simp)).trans (Ch.same s2 Ch.refl))
    | false =>
      walk_at "rf"
      refine ⟨by show 1 ≤ sizeLine; decide, fun q H1 nq gq s1 => ?_⟩
      exact h q H1 nq gq ⟨dx, s1 _ _ hA, s1.bg hB, s1 _ _ (by show H l = some (.lst (((false :: r).reverse).map V.bl)); rw [List.reverse_cons, List.map_append]; exact hL), hN'⟩ (Ch.same s1 Ch.refl)
theorem ok_SexpLoose_take (F : FunD K "take" "SexpLoose.take" (defArgs s_SexpLoose_take) (defBody s_SexpLoose_take) (defScope s_SexpLoose_take) [] [] (meAd "SexpLoose" "take" K) fd) (nb : Nm w K mg) (m_Begun_note : MetX P w K mg base 4 (C_Begun K) "note" (sp_Begun_note K)) (c_loose_octets : Cal P w K mg base 4 "loose_octets" (sp_loose_octets K) []) (m_SexpLoose__before_item : Met P w K mg base 1 (C_SexpLoose K) "_before_item" (sp_SexpLoose__before_item K) []) : MetX P w K mg base 5 (C_SexpLoose K) "take" (sp_SexpLoose_take K) := by
  refine metXD F nb.cl_SexpLoose nb.me_SexpLoose_take sc_SexpLoose_take (fun _ _ _ _ _ _ us hl => match us, hl with | [_, _], _ => rfl) len2 (fun cdv A outer s H vs Q E hr h => ⟨_, (pss_cons (ps_expr (pe_mtX m_Begun_note hr (by decide) (takes_of rfl rfl rfl rfl) (pe_fld (pv 0) rfl) (pa_cons (pv 1) (pa_cons (pe_gc (v := .ref (glAd "is_lacking" K)) rfl ⟨_, nb.f_is_lacking, rfl⟩) pa_nil))))
    (pss_cons (ps_if (pt_cmpR op_eq (pe_ix ix_tup (pv 1) pe_int (fun _ _ => rfl)) pe_str (nomark _))
    (pss_cons (ps_expr (pe_bm0 PySem.F.plainAttrs_list PySem.F.slot_list_pop PySem.F.type_list_pop mt_pop (pe_fld (pv 0) rfl)))
    (pss_one (ps_ret (pe_lstE (pa_cons (pe_gc rfl nb.g_CLOSES) pa_nil)))))
    pss_nil)
    (pss_cons (ps_set (i := 2) sc_SexpLoose_take.nd rfl (Or.inl rfl) (pe_mt0 m_SexpLoose__before_item hr (by decide) (pv 0)))
    (pss_cons (ps_if (pt_cmpR op_eq (pe_ix ix_tup (pv 1) pe_int (fun _ _ => rfl)) pe_str (nomark _))
    (pss_one (ps_ret (pe_op op_cat (pv 2) (pe_c c_loose_octets hr (by decide) rfl (pa_cons (pe_ix ix_tup (pe_ix ix_tup (pv 1) pe_int (fun _ _ => rfl)) pe_int (fun _ _ => rfl)) pa_nil)))))
    pss_nil)
    (pss_cons (ps_expr (pe_bm PySem.F.plainAttrs_list PySem.F.slot_list_append PySem.F.type_list_append mt_append (pe_fld (pv 0) rfl) (pa_cons pe_bl pa_nil)))
    (pss_one (ps_ret (pe_op op_cat (pv 2) (pe_lstE (pa_cons (pe_gc rfl nb.g_OPENS) pa_nil)))))))))), ?_⟩)
  obtain ⟨_, _, rfl, a, b, l, s, e, rfl, hS, he, hl, hq⟩ := h
  obtain ⟨dx, hA, hB, hL, hN⟩ := id hS
  have hN' := hN
  simp only [List.nodup_cons, List.mem_cons, List.not_mem_nil, or_false, not_or] at hN
  obtain ⟨⟨ab, al⟩, bl, _⟩ := hN
  obtain ⟨db, hB0⟩ := id hB
  walk_at "rf"
  refine ⟨_, _, _, rfl, b, _, s.m, e, rfl, rfl, rfl, hB, he, fun z H1 hB1 k1 => ?_, fun z => hl z⟩
  obtain ⟨ok, hq⟩ := hq z
  have tp1 : Tp H1 _ e.dat := Tp.tk k1.tk _ _ he
  have hA1 := k1.get (by simp [ab]) hA
  have hL1 := k1.get (by simp [Ne.symm bl]) hL
  have m1 : Ch [a, b, l] H H1 := k1.mono (by simp)
  have S1 : SlA K H1 a b l ⟨s.m + cntE e, s.st⟩ := ⟨dx, hA1, hB1, hL1, hN'⟩
  cases e with
  | ky k => exact ok.elim
  | cl =>
    obtain ⟨p, rfl, hp⟩ := ev_cl tp1
    walk_at "rf"
    refine r_ixT (SqT.of hp) (atI_nat (j := 0) rfl) ?_
    walk_at "rf"
    refine r_ite (fun _ => ?_) (fun c => absurd rfl c)
    walk_at "rf"
    refine ⟨tyL hL1, ?_⟩
    obtain ⟨t, r, hst⟩ : ∃ t r, s.st = t :: r := by
      cases h : s.st with
      | nil => exact absurd h ok
      | cons t r => exact ⟨t, r, rfl⟩
    have hL1' : H1 l = some (.lst (r.reverse.map V.bl ++ [V.bl t])) := by
      rw [hL1, hst, List.reverse_cons, List.map_append]
      rfl
    refine r_popE hL1' fun H2 hL2 f2 => ?_
    walk_at "rf"
    refine ⟨by show 1 ≤ sizeLine; decide, fun q H3 nq gq s3 => ?_⟩
    have c2 : Ch [l] H1 H2 := Ch.eb (o := [l]) f2 (by simp) Ch.refl
    have m2 : Ch [a, b, l] H H2 := m1.trans (c2.mono (by simp))
    have qn : q ∉ [a, b, l] := fun z => by
      simp only [List.mem_cons, List.not_mem_nil, or_false] at z
      rcases z with e | e | e
      · rw [e, c2.get (by simp [al]) hA1] at nq; cases nq
      · obtain ⟨d1, h1⟩ := hB1.get c2 (by simp [bl])
        rw [e, h1] at nq; cases nq
      · rw [e, hL2] at nq; cases nq
    refine hq q H3 ((m2.fresh nq).resolve_left qn) gq ⟨dx, s3 _ _ (c2.get (by simp [al]) hA1), ?_, s3 _ _ ?_, hN'⟩ (m2.trans (Ch.same s3 Ch.refl))
    · exact s3.bg (hB1.get c2 (by simp [bl]))
    · rw [hL2]
      show _ = some (HO.lst ((s.st.tail).reverse.map V.bl))
      rw [hst]
      rfl
  | op mm =>
    obtain ⟨rfl, sl⟩ := ok
    obtain ⟨p, rfl, hp⟩ := ev_op tp1
    walk_at "rf"
    refine r_ixT (SqT.of hp) (atI_nat (j := 0) rfl) ?_
    walk_at "rf"
    refine r_iteN (show ¬ ("open" : Str) = "close" by decide +kernel) ?_
    walk_at "rf"
    refine ⟨_, rfl, a, b, l, _, rfl, S1, fun q H2 nq gq S2 k2 => ?_⟩
    walk_at "rf"
    refine r_ixT (SqT.of (k2.tup hp)) (atI_nat (j := 0) rfl) ?_
    walk_at "rf"
    refine r_iteN (show ¬ ("open" : Str) = "leaf" by decide +kernel) ?_
    obtain ⟨dx2, hA2, hB2, hL2, _⟩ := S2
    walk_at "rf"
    refine ⟨tyL hL2, ?_⟩
    walk_at "rf"
    refine r_appE hL2 (small1000 (by rw [List.length_map, List.length_reverse, befS_len]; show s.st.length ≤ 1000; omega)) fun H3 hL3 f3 => ?_
    walk_at "rf"
    refine ⟨by show 1 ≤ sizeLine; decide, fun q4 H4 n4 g4 s4 => ?_⟩
    have g4 : H4 q4 = some (.lst (([40] : List Int).map V.int)) := g4
    have qO : q ∉ [a, b, l] := fun z => by
      simp only [List.mem_cons, List.not_mem_nil, or_false] at z
      rcases z with e | e | e
      · rw [e, hA1] at nq; cases nq
      · obtain ⟨d1, h1⟩ := hB1
        rw [e, h1] at nq; cases nq
      · rw [e, hL1] at nq; cases nq
    have ql : q ≠ l := fun e => qO (by simp [e])
    have c3 : Ch [l] H2 H3 := Ch.eb (o := [l]) f3 (by simp) Ch.refl
    refine r_catB (s4 _ _ (c3.get (by simp [ql]) gq)) g4 (by rw [show ([40] : List Int).length = 1 from rfl]; rcases befO_two s.st with e | e <;> rw [e] <;> decide) fun q5 H5 n5 g5 s5 => ?_
    have m3 : Ch [a, b, l] H H3 := (m1.trans k2).trans (c3.mono (by simp))
    have m5 : Ch [a, b, l] H H5 := Ch.same s5 (Ch.same s4 m3)
    have m4 : Ch [a, b, l] H H4 := Ch.same s4 m3
    have hA5 := s5 _ _ (s4 _ _ (c3.get (by simp [al]) hA2))
    have hB5 := s5.bg (s4.bg (hB2.get c3 (by simp [bl])))
    have hL5 := s5 _ _ (s4 _ _ hL3)
    have n5' : H q5 = none := (m4.fresh n5).resolve_left fun z => by
      simp only [List.mem_cons, List.not_mem_nil, or_false] at z
      rcases z with e | e | e
      · rw [e, s4 _ _ (c3.get (by simp [al]) hA2)] at n5; cases n5
      · obtain ⟨d1, h1⟩ := s4.bg (hB2.get c3 (by simp [bl]))
        rw [e, h1] at n5; cases n5
      · rw [e, s4 _ _ hL3] at n5; cases n5
    exact hq q5 H5 n5' g5 ⟨dx2, hA5, hB5, by rw [hL5]; show _ = some (HO.lst ((true :: befS s.st).reverse.map V.bl)); rw [List.reverse_cons, List.map_append]; rfl, hN'⟩ m5
  | lf k r =>
    obtain ⟨rfl, os, rfl, ho⟩ := ok
    obtain ⟨p, q0, xs, rfl, hp, hq0, hx⟩ := ev_lf tp1
    walk_at "rf"
    refine r_ixT (SqT.of hp) (atI_nat (j := 0) rfl) ?_
    walk_at "rf"
    refine r_iteN (show ¬ ("leaf" : Str) = "close" by decide +kernel) ?_
    walk_at "rf"
    refine ⟨_, rfl, a, b, l, _, rfl, S1, fun q H2 nq gq S2 k2 => ?_⟩
    walk_at "rf"
    refine r_ixT (SqT.of (k2.tup hp)) (atI_nat (j := 0) rfl) ?_
    walk_at "rf"
    refine r_ite (fun _ => ?_) (fun c => absurd rfl c)
    walk_at "rf"
    refine r_ixT (SqT.of (k2.tup hp)) (atI_nat (j := 1) rfl) ?_
    walk_at "rf"
    obtain ⟨t0, ex, ht0⟩ : ∃ t0, xs = [.ref t0] ∧ H1 t0 = some (.tup (os.map V.int)) := by
      cases hx with
      | cons h1 h2 =>
        cases h2
        obtain ⟨t0, rfl, ht⟩ := tp_kdB h1
        exact ⟨t0, rfl, ht⟩
    subst ex
    refine r_ixT (SqT.of (k2.tup hq0)) (atI_nat (j := 1) rfl) ?_
    walk_at "rf"
    refine ⟨_, rfl, t0, os, rfl, k2.tup ht0, ho, fun q4 H4 n4 g4 s4 => ?_⟩
    refine r_catB (s4 _ _ gq) g4 (by have := loose_len ho; rcases befO_two s.st with e | e <;> rw [e] <;> show _ + _ ≤ _ <;> simp <;> omega) fun q5 H5 n5 g5 s5 => ?_
    obtain ⟨dx2, hA2, hB2, hL2, _⟩ := S2
    have m2 : Ch [a, b, l] H H2 := m1.trans k2
    have m4 : Ch [a, b, l] H H4 := Ch.same s4 m2
    have n5' : H q5 = none := (m4.fresh n5).resolve_left fun z => by
      simp only [List.mem_cons, List.not_mem_nil, or_false] at z
      rcases z with e | e | e
      · rw [e, s4 _ _ hA2] at n5; cases n5
      · obtain ⟨d1, h1⟩ := s4.bg hB2
        rw [e, h1] at n5; cases n5
      · rw [e, s4 _ _ hL2] at n5; cases n5
    refine hq q5 H5 n5' ?_ ⟨dx2, s5 _ _ (s4 _ _ hA2), s5.bg (s4.bg hB2), s5 _ _ (s4 _ _ hL2), hN'⟩ (Ch.same s5 m4)
    rw [slO_lf]
    exact g5
end

/-! ### the atom that is a token -/



def TkA (K : Frg) (H : Hp) (a l : Addr) (os : List Int) : Prop := ∃ dx, H a = some (.ins (C_SexpToken K) dx (fs_SexpToken (.bl false) (.bl true) (.ref l))) ∧ H l = some (.lst (os.map V.int)) ∧ a ≠ l
theorem TkA.get {K : Frg} {H H' : Hp} {a l : Addr} {s : List Int} {o : List Addr} (h : TkA K H a l s) (c : Ch o H H') (na : a ∉ o) (nl : l ∉ o) : TkA K H' a l s := by
  obtain ⟨dx, h1, h2, h3⟩ := h
  exact ⟨dx, c.get na h1, c.get nl h2, h3⟩
def sp_SexpToken___init__ (K : Frg) : Sp := sp1 fun p H Q _ => ∃ a dx, p = .ref a ∧ H a = some (.ins (C_SexpToken K) dx []) ∧ ∀ l H', H l = none → TkA K H' a l [] → Ch [a] H H' → Q .non H'
def sp_SexpToken_take (K : Frg) : Sp := sp2 fun p o H Q _ => ∃ a l os b, p = .ref a ∧ o = .int b ∧ TkA K H a l os ∧ os.length < sizeLine ∧ (goT b = false → Q (.bl false) H) ∧ (goT b = true → ∀ H', TkA K H' a l (os ++ [b]) → Ch [l] H H' → Q (.bl true) H')
def sp_SexpToken_leaf (K : Frg) : Sp := sp1 fun p H Q _ => ∃ a l os, p = .ref a ∧ TkA K H a l os ∧ ∀ p H', Tp H' p (.tuple [.str "bytes", kd os]) → Same H H' → Q p H'
section
variable {P : Program} {w : World} {K : PySem.W.Frag} {mg : Str → Option Value} {base : Heap} {f : Addr} {fd : FuncData}
theorem ok_SexpToken___init__ (F : FunD K "__init__" "SexpToken.__init__" (defArgs s_SexpToken___init__) (defBody s_SexpToken___init__) (defScope s_SexpToken___init__) [] [] (meAd "SexpToken" "__init__" K) fd) (nb : Nm w K mg) : Mak P w K mg base 1 "SexpToken" (C_SexpToken K) (sp_SexpToken___init__ K) [] := by
  refine makD F nb.mk_SexpToken nb.g_SexpToken sc_SexpToken___init__ (fun _ _ _ _ _ _ us hl => match us, hl with | [_], _ => rfl) len1 (fun cdv A outer s H vs Q E hr h => ⟨_, (pss_cons (ps_fld (pv 0) pe_bl rfl)
    (pss_cons (ps_fld (pv 0) pe_bl rfl)
    (pss_one (ps_fld (pv 0) (pe_lstE pa_nil) rfl)))), ?_⟩)
  obtain ⟨_, rfl, a, dx, rfl, hA, h⟩ := h
  walk_at "rf"
  refine r_fsetE hA nb.cl_SexpToken nb.na_SexpToken_is_done (by decide) (in_SexpToken_is_done) fun H1 hA1 f1 => ?_
  walk_at "rf"
  refine r_fsetE hA1 nb.cl_SexpToken nb.na_SexpToken_can_end (by simp) (in_SexpToken_can_end) fun H2 hA2 f2 => ?_
  walk_at "rf"
  refine ⟨by show 0 ≤ sizeLine; decide, fun l H4 nl hL4 s4 => ?_⟩
  have hne : a ≠ l := Same.ne nl hA2
  have c3 : Ch [a] H H2 := by walk_at "ch"
  walk_at "rf"
  refine r_fsetE (s4 _ _ hA2) nb.cl_SexpToken nb.na_SexpToken__octets (by simp) (in_SexpToken__octets) fun H5 hA5 f5 => ?_
  exact h l H5 ((c3.fresh nl).resolve_left (by simp [Ne.symm hne])) ⟨dx, hA5, by walk_at "hl", hne⟩ (by walk_at "ch")
theorem ok_SexpToken_take (F : FunD K "take" "SexpToken.take" (defArgs s_SexpToken_take) (defBody s_SexpToken_take) (defScope s_SexpToken_take) [] [] (meAd "SexpToken" "take" K) fd) (nb : Nm w K mg) (c_goes_on_token : Cal P w K mg base 2 "goes_on_token" (sp_goes_on_token K) []) : Met P w K mg base 3 (C_SexpToken K) "take" (sp_SexpToken_take K) [] := by
  refine metD F nb.cl_SexpToken nb.me_SexpToken_take sc_SexpToken_take (fun _ _ _ _ _ _ us hl => match us, hl with | [_, _], _ => rfl) len2 (fun cdv A outer s H vs Q E hr h => ⟨_, (pss_cons (ps_if (pt_not (pt_val (pe_c c_goes_on_token hr (by decide) rfl (pa_cons (pv 1) pa_nil))))
    (pss_one (ps_ret pe_bl))
    pss_nil)
    (pss_cons (ps_expr (pe_bm PySem.F.plainAttrs_list PySem.F.slot_list_append PySem.F.type_list_append mt_append (pe_fld (pv 0) rfl) (pa_cons (pv 1) pa_nil)))
    (pss_one (ps_ret pe_bl)))), ?_⟩)
  obtain ⟨_, _, rfl, a, l, os, b, rfl, rfl, ⟨dx, hA, hL, ne⟩, hl, h1, h2⟩ := h
  walk_at "rf"
  refine ⟨_, rfl, b, rfl, ?_⟩
  cases c : goT b with
  | false =>
    refine ⟨false, rfl, ?_⟩
    walk_at "rf"
    exact h1 c
  | true =>
    refine ⟨true, rfl, ?_⟩
    walk_at "rf"
    refine ⟨tyL hL, ?_⟩
    walk_at "rf"
    refine r_appE hL (by rw [List.length_map]; exact hl) fun H1 hL1 f1 => ?_
    walk_at "rf"
    exact h2 c H1 ⟨dx, by walk_at "hl", by rw [hL1, List.map_append]; rfl, ne⟩ (by walk_at "ch")
theorem ok_SexpToken_leaf (F : FunD K "leaf" "SexpToken.leaf" (defArgs s_SexpToken_leaf) (defBody s_SexpToken_leaf) (defScope s_SexpToken_leaf) [] [] (meAd "SexpToken" "leaf" K) fd) (nb : Nm w K mg) : Met P w K mg base 1 (C_SexpToken K) "leaf" (sp_SexpToken_leaf K) [] := by
  refine metD F nb.cl_SexpToken nb.me_SexpToken_leaf sc_SexpToken_leaf (fun _ _ _ _ _ _ us hl => match us, hl with | [_], _ => rfl) len1 (fun cdv A outer s H vs Q E hr h => ⟨_, (pss_one (ps_ret (pe_tupE (pa_cons pe_str (pa_cons (pe_callTy call_tuple_ofE (by rfl) nb.tuple (by decide +kernel) (pa_cons (pe_fld (pv 0) rfl) pa_nil)) pa_nil))))), ?_⟩)
  obtain ⟨_, rfl, a, l, os, rfl, ⟨dx, hA, hL, ne⟩, h⟩ := h
  walk_at "rf"
  refine r_toT (SqL.of hL) fun t H1 nt g1 s1 => ?_
  walk_at "rf"
  refine ⟨by show 2 ≤ sizeLine; decide, fun q H2 nq g2 s2 => ?_⟩
  exact h (.ref q) H2 (.tup g2 (.cons (.str _) (.cons (tp_kd (s2 _ _ g1)) .nil))) (s1.trans s2)
end

/-! ### the atom in hex -/




def wsp : List Int := [32, 9, 10, 11, 12, 13]
structure Hx where
  d : Bool
  os : List Int
  f : Option Int
def HxA (K : Frg) (H : Hp) (a l : Addr) (s : Hx) : Prop := ∃ dx, H a = some (.ins (C_SexpHex K) dx (fs_SexpHex (.bl s.d) (.bl false) (.ref l) (optV s.f))) ∧ H l = some (.lst (s.os.map V.int)) ∧ a ≠ l
def hx0 : Hx := ⟨false, [], none⟩
def hxDigit (s : Hx) (w : Int) : Hx := match s.f with
  | none => { s with f := some w }
  | some x => { s with os := s.os ++ [x * 16 + w], f := none }
def hxTake (s : Hx) (b : Int) : Bool × Hx :=
  if b ∈ wsp then (true, s) else if b = 35 then (decide (s.f = none), { s with d := decide (s.f = none) }) else match hexW b with
  | none => (false, s)
  | some w => (true, hxDigit s w)
theorem HxA.get {K : Frg} {H H' : Hp} {a l : Addr} {s : Hx} {o : List Addr} (h : HxA K H a l s) (c : Ch o H H') (na : a ∉ o) (nl : l ∉ o) : HxA K H' a l s := by
  obtain ⟨dx, h1, h2, h3⟩ := h
  exact ⟨dx, c.get na h1, c.get nl h2, h3⟩
def sp_SexpHex___init__ (K : Frg) : Sp := sp1 fun p H Q _ => ∃ a dx, p = .ref a ∧ H a = some (.ins (C_SexpHex K) dx []) ∧ ∀ l H', H l = none → HxA K H' a l hx0 → Ch [a] H H' → Q .non H'
def sp_SexpHex__take_digit (K : Frg) : Sp := sp2 fun p o H Q _ => ∃ a l s b, p = .ref a ∧ o = .int b ∧ HxA K H a l s ∧ s.os.length < sizeLine ∧ ∀ H', HxA K H' a l (hxDigit s b) → Ch [a, l] H H' → Q .non H'
def sp_SexpHex_take (K : Frg) : Sp := sp2 fun p o H Q _ => ∃ a l s b, p = .ref a ∧ o = .int b ∧ HxA K H a l s ∧ s.os.length < sizeLine ∧ ∀ H', HxA K H' a l (hxTake s b).2 → Ch [a, l] H H' → Q (.bl (hxTake s b).1) H'
def sp_SexpHex_leaf (K : Frg) : Sp := sp1 fun p H Q _ => ∃ a l s, p = .ref a ∧ HxA K H a l s ∧ ∀ p H', Tp H' p (.tuple [.str "bytes", kd s.os]) → Same H H' → Q p H'
section
variable {P : Program} {w : World} {K : PySem.W.Frag} {mg : Str → Option Value} {base : Heap} {f : Addr} {fd : FuncData}
theorem ok_SexpHex___init__ (F : FunD K "__init__" "SexpHex.__init__" (defArgs s_SexpHex___init__) (defBody s_SexpHex___init__) (defScope s_SexpHex___init__) [] [] (meAd "SexpHex" "__init__" K) fd) (nb : Nm w K mg) : Mak P w K mg base 1 "SexpHex" (C_SexpHex K) (sp_SexpHex___init__ K) [] := by
  refine makD F nb.mk_SexpHex nb.g_SexpHex sc_SexpHex___init__ (fun _ _ _ _ _ _ us hl => match us, hl with | [_], _ => rfl) len1 (fun cdv A outer s H vs Q E hr h => ⟨_, (pss_cons (ps_fld (pv 0) pe_bl rfl)
    (pss_cons (ps_fld (pv 0) pe_bl rfl)
    (pss_cons (ps_fld (pv 0) (pe_lstE pa_nil) rfl)
    (pss_one (ps_fld (pv 0) pe_non rfl))))), ?_⟩)
  obtain ⟨_, rfl, a, dx, rfl, hA, h⟩ := h
  walk_at "rf"
  refine r_fsetE hA nb.cl_SexpHex nb.na_SexpHex_is_done (by decide) (in_SexpHex_is_done) fun H1 hA1 f1 => ?_
  walk_at "rf"
  refine r_fsetE hA1 nb.cl_SexpHex nb.na_SexpHex_can_end (by simp) (in_SexpHex_can_end) fun H2 hA2 f2 => ?_
  walk_at "rf"
  refine ⟨by show 0 ≤ sizeLine; decide, fun l H4 nl hL4 s4 => ?_⟩
  have hne : a ≠ l := Same.ne nl hA2
  have c3 : Ch [a] H H2 := by walk_at "ch"
  walk_at "rf"
  refine r_fsetE (s4 _ _ hA2) nb.cl_SexpHex nb.na_SexpHex__octets (by simp) (in_SexpHex__octets) fun H5 hA5 f5 => ?_
  walk_at "rf"
  refine r_fsetE hA5 nb.cl_SexpHex nb.na_SexpHex__first (by simp) (in_SexpHex__first) fun H6 hA6 f6 => ?_
  exact h l H6 ((c3.fresh nl).resolve_left (by simp [Ne.symm hne])) ⟨dx, hA6, by walk_at "hl", hne⟩ (by walk_at "ch")
theorem ok_SexpHex__take_digit (F : FunD K "_take_digit" "SexpHex._take_digit" (defArgs s_SexpHex__take_digit) (defBody s_SexpHex__take_digit) (defScope s_SexpHex__take_digit) [] [] (meAd "SexpHex" "_take_digit" K) fd) (nb : Nm w K mg) : Met P w K mg base 1 (C_SexpHex K) "_take_digit" (sp_SexpHex__take_digit K) [] := by
  refine metD F nb.cl_SexpHex nb.me_SexpHex__take_digit sc_SexpHex__take_digit (fun _ _ _ _ _ _ us hl => match us, hl with | [_, _], _ => rfl) len2 (fun cdv A outer s H vs Q E hr h => ⟨_, (pss_cons (ps_if (pt_cmpR op_isN (pe_fld (pv 0) rfl) pe_non (nomark _))
    (pss_cons (ps_fld (pv 0) (pv 1) rfl)
    (pss_one ps_retN))
    pss_nil)
    (pss_cons (ps_expr (pe_bm PySem.F.plainAttrs_list PySem.F.slot_list_append PySem.F.type_list_append mt_append (pe_fld (pv 0) rfl) (pa_cons (pe_op op_add (pe_op op_mul (pe_fld (pv 0) rfl) pe_int) (pv 1)) pa_nil)))
    (pss_one (ps_fld (pv 0) pe_non rfl)))), ?_⟩)
  obtain ⟨_, _, rfl, a, l, s, b, rfl, rfl, ⟨dx, hA, hL, ne⟩, hl, h⟩ := h
  obtain ⟨d, os, fo⟩ := s
  cases fo with
  | none =>
    walk_at "rf"
    rw [if_pos (show decide (optV none = V.non) = true from rfl)]
    walk_at "rf"
    refine r_fsetE hA nb.cl_SexpHex nb.na_SexpHex__first (few_SexpHex) pt_SexpHex__first fun H1 hA1 f1 => ?_
    walk_at "rf"
    exact h H1 ⟨dx, hA1, by walk_at "hl", ne⟩ (by walk_at "ch")
  | some x =>
    walk_at "rf"
    rw [if_neg (show ¬ decide (optV (some x) = V.non) = true by simp [optV])]
    walk_at "rf"
    refine ⟨tyL hL, ?_⟩
    walk_at "rf"
    refine r_I (i := x) (j := 16) (.inr (by decide)) ?_
    walk_at "rf"
    refine r_appE hL (by rw [List.length_map]; exact hl) fun H1 hL1 f1 => ?_
    walk_at "rf"
    refine r_fsetE (f1.get ne hA) nb.cl_SexpHex nb.na_SexpHex__first (few_SexpHex) pt_SexpHex__first fun H2 hA2 f2 => ?_
    exact h H2 ⟨dx, hA2, by rw [f2.get (Ne.symm ne) hL1]; show _ = some (HO.lst ((os ++ [x * 16 + b]).map V.int)); rw [List.map_append]; rfl, ne⟩ (by walk_at "ch")
theorem ok_SexpHex_take (F : FunD K "take" "SexpHex.take" (defArgs s_SexpHex_take) (defBody s_SexpHex_take) (defScope s_SexpHex_take) [] [] (meAd "SexpHex" "take" K) fd) (nb : Nm w K mg) (c_hex_worth : Cal P w K mg base 1 "hex_worth" sp_hex_worth []) (m_SexpHex__take_digit : Met P w K mg base 1 (C_SexpHex K) "_take_digit" (sp_SexpHex__take_digit K) []) : Met P w K mg base 2 (C_SexpHex K) "take" (sp_SexpHex_take K) [] := by
  obtain ⟨v_WHITESPACE, u_WHITESPACE, e_WHITESPACE, r_WHITESPACE, k_WHITESPACE⟩ := nb.g_WHITESPACE
  refine metD F nb.cl_SexpHex nb.me_SexpHex_take sc_SexpHex_take (fun _ _ _ _ _ _ us hl => match us, hl with | [_, _], _ => rfl) len2 (fun cdv A outer s H vs Q E hr h => ⟨_, (pss_cons (ps_if (pt_cmpR op_in_seq (pv 1) (pe_gc rfl ⟨u_WHITESPACE, e_WHITESPACE, r_WHITESPACE⟩) rfl)
    (pss_one (ps_ret pe_bl))
    pss_nil)
    (pss_cons (ps_if (pt_cmpR op_eq (pv 1) (pe_gc rfl nb.g_HASH) (nomark _))
    (pss_cons (ps_fld (pv 0) (pe_cmpR op_isN (pe_fld (pv 0) rfl) pe_non (nomark _)) rfl)
    (pss_one (ps_ret (pe_fld (pv 0) rfl))))
    pss_nil)
    (pss_cons (ps_set (i := 2) sc_SexpHex_take.nd rfl (Or.inl rfl) (pe_c c_hex_worth hr (by decide) rfl (pa_cons (pv 1) pa_nil)))
    (pss_cons (ps_if (pt_cmpR op_isN (pv 2) pe_non (nomark _))
    (pss_one (ps_ret pe_bl))
    pss_nil)
    (pss_cons (ps_expr (pe_mt m_SexpHex__take_digit hr (by decide) (pv 0) (pa_cons (pv 2) pa_nil)))
    (pss_one (ps_ret pe_bl))))))), ?_⟩)
  obtain ⟨_, _, rfl, a, l, s, b, rfl, rfl, ⟨dx, hA, hL, ne⟩, hl, h⟩ := h
  obtain ⟨wm, ys, rfl, hM, hE⟩ := dp_tup (k_WHITESPACE H)
  have hE : ys = wsp.map V.int := dp_ints wsp hE
  subst hE
  walk_at "rf"
  refine ⟨wm, wsp.map V.int, rfl, .inr hM, rfl, rfl, ?_⟩
  rw [if_neg Bool.false_ne_true, in_ints]
  walk_at "rf"
  unfold hxTake at h
  refine r_ite (fun c => ?_) (fun c => ?_)
  · walk_at "rf"
    rw [if_pos c] at h
    exact h H ⟨dx, hA, hL, ne⟩ Ch.refl
  rw [if_neg c] at h
  walk_at "rf"
  refine r_ite (fun c2 => ?_) (fun c2 => ?_)
  · rw [if_pos c2] at h
    walk_at "rf"
    refine r_fsetE hA nb.cl_SexpHex nb.na_SexpHex_is_done (few_SexpHex) pt_SexpHex_is_done fun H1 hA1 f1 => ?_
    have ed : decide (optV s.f = V.non) = decide (s.f = none) := by cases s.f <;> simp [optV]
    rw [ed] at hA1
    walk_at "rf"
    exact h H1 ⟨dx, hA1, f1.get (Ne.symm ne) hL, ne⟩ (by walk_at "ch")
  rw [if_neg c2] at h
  walk_at "rf"
  refine ⟨_, rfl, b, rfl, ?_⟩
  cases hw : hexW b with
  | none =>
    rw [hw] at h
    walk_at "rf"
    rw [if_pos (show decide (optV none = V.non) = true from rfl)]
    walk_at "rf"
    exact h H ⟨dx, hA, hL, ne⟩ Ch.refl
  | some v =>
    rw [hw] at h
    walk_at "rf"
    rw [if_neg (show ¬ decide (optV (some v) = V.non) = true by simp [optV])]
    walk_at "rf"
    refine ⟨_, _, rfl, a, l, s, v, rfl, rfl, ⟨dx, hA, hL, ne⟩, hl, fun H1 h1 c1 => ?_⟩
    walk_at "rf"
    exact h H1 h1 c1
theorem ok_SexpHex_leaf (F : FunD K "leaf" "SexpHex.leaf" (defArgs s_SexpHex_leaf) (defBody s_SexpHex_leaf) (defScope s_SexpHex_leaf) [] [] (meAd "SexpHex" "leaf" K) fd) (nb : Nm w K mg) : Met P w K mg base 1 (C_SexpHex K) "leaf" (sp_SexpHex_leaf K) [] := by
  refine metD F nb.cl_SexpHex nb.me_SexpHex_leaf sc_SexpHex_leaf (fun _ _ _ _ _ _ us hl => match us, hl with | [_], _ => rfl) len1 (fun cdv A outer s H vs Q E hr h => ⟨_, (pss_one (ps_ret (pe_tupE (pa_cons pe_str (pa_cons (pe_callTy call_tuple_ofE (by rfl) nb.tuple (by decide +kernel) (pa_cons (pe_fld (pv 0) rfl) pa_nil)) pa_nil))))), ?_⟩)
  obtain ⟨_, rfl, a, l, s, rfl, ⟨dx, hA, hL, ne⟩, h⟩ := h
  walk_at "rf"
  refine r_toT (SqL.of hL) fun t H1 nt g1 s1 => ?_
  walk_at "rf"
  refine ⟨by show 2 ≤ sizeLine; decide, fun q H2 nq g2 s2 => ?_⟩
  exact h (.ref q) H2 (.tup g2 (.cons (.str _) (.cons (tp_kd (s2 _ _ g1)) .nil))) (s1.trans s2)
end

/-! ### escapes within quotes -/




structure Es where
  d : Bool
  o : Option Int
  b : Option Int
  m : Int
  w : Int
def EsA (K : Frg) (H : Hp) (a : Addr) (s : Es) : Prop := ∃ dx, H a = some (.ins (C_SexpEscape K) dx (fs_SexpEscape (.bl s.d) (optV s.o) (optV s.b) (.int s.m) (.int s.w)))
def es0 : Es := ⟨false, none, none, 0, 0⟩
def shortKs : List (Int × Int) := [(98, 8), (116, 9), (118, 11), (110, 10), (102, 12), (114, 13), (34, 34), (39, 39), (92, 92), (63, 63)]
def shortE (o : Int) : Option Int := (shortKs.find? fun p => p.1 == o).map (·.2)
theorem val_tab (b : Int) : ∀ l : List (Int × Int), (valV (l.map fun p => ((.inl p.1 : Key), V.int p.2)) (.inl b)).getD .non = optV ((l.find? fun p => p.1 == b).map (·.2))
  | [] => rfl
  | (x, y) :: l => by
    by_cases c : x = b
    · subst c
      rw [List.map_cons, valV_pos rfl]
      simp [optV]
    · rw [List.map_cons, valV_neg (fun e => c (by cases e; rfl)), val_tab b l]
      simp [c]
theorem val_short (b : Int) : (valV (([.inl 98, .inl 116, .inl 118, .inl 110, .inl 102, .inl 114, .inl 34, .inl 39, .inl 92, .inl 63] : List Key).zip [.int 8, .int 9, .int 11, .int 10, .int 12, .int 13, .int 34, .int 39, .int 92, .int 63]) (.inl b)).getD .non = optV (shortE b) := val_tab b shortKs
def esDigit (s : Es) (v : Int) : Es :=
  if s.m - 1 = 0 then { s with w := s.w * s.b.getD 0 + v, m := s.m - 1, o := some (s.w * s.b.getD 0 + v), d := true } else { s with w := s.w * s.b.getD 0 + v, m := s.m - 1 }
def esFirst (s : Es) (o : Int) : Bool × Es :=
  if o = 120 then (true, { s with b := some 16, m := 2 }) else if 48 ≤ o ∧ o ≤ 51 then (true, esDigit { s with b := some 8, m := 3 } (o - 48)) else
    (decide (o = 10) || (shortE o).isSome, { s with o := shortE o, d := decide (o = 10) || (shortE o).isSome })
def esTake (s : Es) (o : Int) : Bool × Es := match s.b with
  | none => esFirst s o
  | some b => match hexW o with
    | none => (false, s)
    | some v => if b ≤ v then (false, s) else (true, esDigit s v)
theorem EsA.get {K : Frg} {H H' : Hp} {a : Addr} {s : Es} {o : List Addr} (h : EsA K H a s) (c : Ch o H H') (na : a ∉ o) : EsA K H' a s := by
  obtain ⟨dx, h1⟩ := h
  exact ⟨dx, c.get na h1⟩
def sp_SexpEscape___init__ (K : Frg) : Sp := sp1 fun p H Q _ => ∃ a dx, p = .ref a ∧ H a = some (.ins (C_SexpEscape K) dx []) ∧ ∀ H', EsA K H' a es0 → Ch [a] H H' → Q .non H'
def sp_SexpEscape__take_digit (K : Frg) : Sp := sp2 fun p o H Q _ => ∃ a s b v, p = .ref a ∧ o = .int v ∧ EsA K H a s ∧ s.b = some b ∧ 0 ≤ b ∧ b ≤ 16 ∧ ∀ H', EsA K H' a (esDigit s v) → Ch [a] H H' → Q .non H'
def sp_SexpEscape__take_first (K : Frg) : Sp := sp2 fun p o H Q _ => ∃ a s b, p = .ref a ∧ o = .int b ∧ EsA K H a s ∧ ∀ H', EsA K H' a (esFirst s b).2 → Ch [a] H H' → Q (.bl (esFirst s b).1) H'
def sp_SexpEscape_take (K : Frg) : Sp := sp2 fun p o H Q _ => ∃ a s v, p = .ref a ∧ o = .int v ∧ EsA K H a s ∧ (∀ b, s.b = some b → 0 ≤ b ∧ b ≤ 16) ∧ ∀ H', EsA K H' a (esTake s v).2 → Ch [a] H H' → Q (.bl (esTake s v).1) H'
section
variable {P : Program} {w : World} {K : PySem.W.Frag} {mg : Str → Option Value} {base : Heap} {f : Addr} {fd : FuncData}
theorem ok_SexpEscape___init__ (F : FunD K "__init__" "SexpEscape.__init__" (defArgs s_SexpEscape___init__) (defBody s_SexpEscape___init__) (defScope s_SexpEscape___init__) [] [] (meAd "SexpEscape" "__init__" K) fd) (nb : Nm w K mg) : Mak P w K mg base 1 "SexpEscape" (C_SexpEscape K) (sp_SexpEscape___init__ K) [] := by
  refine makD F nb.mk_SexpEscape nb.g_SexpEscape sc_SexpEscape___init__ (fun _ _ _ _ _ _ us hl => match us, hl with | [_], _ => rfl) len1 (fun cdv A outer s H vs Q E hr h => ⟨_, (pss_cons (ps_fld (pv 0) pe_bl rfl)
    (pss_cons (ps_fld (pv 0) pe_non rfl)
    (pss_cons (ps_fld (pv 0) pe_non rfl)
    (pss_cons (ps_fld (pv 0) pe_int rfl)
    (pss_one (ps_fld (pv 0) pe_int rfl)))))), ?_⟩)
  obtain ⟨_, rfl, a, dx, rfl, hA, h⟩ := h
  walk_at "rf"
  refine r_fsetE hA nb.cl_SexpEscape nb.na_SexpEscape_is_done (by decide) (in_SexpEscape_is_done) fun H1 hA1 f1 => ?_
  walk_at "rf"
  refine r_fsetE hA1 nb.cl_SexpEscape nb.na_SexpEscape_octet (by simp) (in_SexpEscape_octet) fun H2 hA2 f2 => ?_
  walk_at "rf"
  refine r_fsetE hA2 nb.cl_SexpEscape nb.na_SexpEscape__base (by simp) (in_SexpEscape__base) fun H3 hA3 f3 => ?_
  walk_at "rf"
  refine r_fsetE hA3 nb.cl_SexpEscape nb.na_SexpEscape__missing (by simp) (in_SexpEscape__missing) fun H4 hA4 f4 => ?_
  walk_at "rf"
  refine r_fsetE hA4 nb.cl_SexpEscape nb.na_SexpEscape__worth (by simp) (in_SexpEscape__worth) fun H5 hA5 f5 => ?_
  exact h H5 ⟨dx, hA5⟩ (by walk_at "ch")
theorem ok_SexpEscape__take_digit (F : FunD K "_take_digit" "SexpEscape._take_digit" (defArgs s_SexpEscape__take_digit) (defBody s_SexpEscape__take_digit) (defScope s_SexpEscape__take_digit) [] [] (meAd "SexpEscape" "_take_digit" K) fd) (nb : Nm w K mg) : Met P w K mg base 1 (C_SexpEscape K) "_take_digit" (sp_SexpEscape__take_digit K) [] := by
  refine metD F nb.cl_SexpEscape nb.me_SexpEscape__take_digit sc_SexpEscape__take_digit (fun _ _ _ _ _ _ us hl => match us, hl with | [_, _], _ => rfl) len2 (fun cdv A outer s H vs Q E hr h => ⟨_, (pss_cons (ps_fld (pv 0) (pe_op op_add (pe_op op_mul (pe_fld (pv 0) rfl) (pe_fld (pv 0) rfl)) (pv 1)) rfl)
    (pss_cons (ps_fld (pv 0) (pe_op op_sub (pe_fld (pv 0) rfl) pe_int) rfl)
    (pss_one (ps_if (pt_cmpR op_eq (pe_fld (pv 0) rfl) pe_int (nomark _))
    (pss_cons (ps_fld (pv 0) (pe_fld (pv 0) rfl) rfl)
    (pss_one (ps_fld (pv 0) pe_bl rfl)))
    pss_nil)))), ?_⟩)
  obtain ⟨_, _, rfl, a, s, b, v, rfl, rfl, ⟨dx, hA⟩, hb, b0, b16, h⟩ := h
  obtain ⟨d, o, b', m, w'⟩ := s
  obtain rfl : b' = some b := hb
  walk_at "rf"
  refine r_I (i := w') (j := b) (.inr ?_) ?_
  · exact ⟨Int.lt_of_lt_of_le (by decide) b0, Int.lt_of_le_of_lt b16 (by decide)⟩
  walk_at "rf"
  refine r_fsetE hA nb.cl_SexpEscape nb.na_SexpEscape__worth (few_SexpEscape) pt_SexpEscape__worth fun H1 hA1 f1 => ?_
  walk_at "rf"
  refine r_fsetE hA1 nb.cl_SexpEscape nb.na_SexpEscape__missing (few_SexpEscape) pt_SexpEscape__missing fun H2 hA2 f2 => ?_
  walk_at "rf"
  unfold esDigit at h
  refine r_ite (fun c => ?_) (fun c => ?_)
  · rw [if_pos c] at h
    walk_at "rf"
    refine r_fsetE hA2 nb.cl_SexpEscape nb.na_SexpEscape_octet (few_SexpEscape) pt_SexpEscape_octet fun H3 hA3 f3 => ?_
    walk_at "rf"
    refine r_fsetE hA3 nb.cl_SexpEscape nb.na_SexpEscape_is_done (few_SexpEscape) pt_SexpEscape_is_done fun H4 hA4 f4 => ?_
    exact h H4 ⟨dx, hA4⟩ (by walk_at "ch")
  · rw [if_neg c] at h
    walk_at "rf"
    exact h H2 ⟨dx, hA2⟩ (by walk_at "ch")
theorem ok_SexpEscape__take_first (F : FunD K "_take_first" "SexpEscape._take_first" (defArgs s_SexpEscape__take_first) (defBody s_SexpEscape__take_first) (defScope s_SexpEscape__take_first) [] [] (meAd "SexpEscape" "_take_first" K) fd) (nb : Nm w K mg) (m_SexpEscape__take_digit : Met P w K mg base 1 (C_SexpEscape K) "_take_digit" (sp_SexpEscape__take_digit K) []) : Met P w K mg base 2 (C_SexpEscape K) "_take_first" (sp_SexpEscape__take_first K) [] := by
  obtain ⟨v_SHORT_ESCAPES, u_SHORT_ESCAPES, e_SHORT_ESCAPES, r_SHORT_ESCAPES, k_SHORT_ESCAPES⟩ := nb.g_SHORT_ESCAPES
  refine metD F nb.cl_SexpEscape nb.me_SexpEscape__take_first sc_SexpEscape__take_first (fun _ _ _ _ _ _ us hl => match us, hl with | [_, _], _ => rfl) len2 (fun cdv A outer s H vs Q E hr h => ⟨_, (pss_cut (ps_if (pt_cmpR op_eq (pv 1) (pe_gc rfl nb.g_SMALL_X) (nomark _))
    (pss_cons (ps_fld (pv 0) pe_int rfl)
    (pss_one (ps_fld (pv 0) pe_int rfl)))
    (pss_one (ps_if (pt_chain op_le op_le pe_int (pv 1) pe_int)
    (pss_cons (ps_fld (pv 0) pe_int rfl)
    (pss_cons (ps_fld (pv 0) pe_int rfl)
    (pss_one (ps_expr (pe_mt m_SexpEscape__take_digit hr (by decide) (pv 0) (pa_cons (pe_op op_sub (pv 1) pe_int) pa_nil))))))
    (pss_cons (ps_fld (pv 0) (pe_kget2 (pe_gc rfl ⟨u_SHORT_ESCAPES, e_SHORT_ESCAPES, r_SHORT_ESCAPES⟩) (pv 1) pe_non ⟨by rfl, by rfl, by rfl, by rfl⟩) rfl)
    (pss_cons (ps_fld (pv 0) (pe_or (pe_cmpR op_eq (pv 1) (pe_gc rfl nb.g_LINE_FEED) (nomark _)) (pe_one (pe_cmpR op_notN (pe_fld (pv 0) rfl) pe_non (nomark _)))) rfl)
    (pss_one (ps_ret (pe_fld (pv 0) rfl))))))))
    (pss_one (ps_ret pe_bl))), ?_⟩)
  obtain ⟨_, _, rfl, a, s, b, rfl, rfl, ⟨dx, hA⟩, h⟩ := h
  walk_at "rf"
  refine r_cut (fun σ H' => EsA K H' a (esFirst s b).2 ∧ (esFirst s b).1 = true ∧ Ch [a] H H') ?_ ?_
  · unfold esFirst at h ⊢
    walk_at "rf"
    refine r_ite (fun c => ?_) (fun c => ?_)
    · rw [if_pos c]
      walk_at "rf"
      refine r_fsetE hA nb.cl_SexpEscape nb.na_SexpEscape__base (few_SexpEscape) pt_SexpEscape__base fun H1 hA1 f1 => ?_
      walk_at "rf"
      refine r_fsetE (R := fun H' => EsA K H' a { s with b := some 16, m := 2 } ∧ true = true ∧ Ch [a] H H') hA1 nb.cl_SexpEscape nb.na_SexpEscape__missing (few_SexpEscape) pt_SexpEscape__missing fun H2 hA2 f2 => ?_
      exact ⟨⟨dx, hA2⟩, rfl, by walk_at "ch"⟩
    rw [if_neg c] at h ⊢
    walk_at "rg"
    refine r_ifB (decide (48 ≤ b ∧ b ≤ 51)) (fun R hR => ?_) ?_
    · walk_at "rf"
      refine r_ite (fun c => ?_) (fun c => ?_)
      · have e : decide (48 ≤ b ∧ b ≤ 51) = decide (b ≤ 51) := decide_eq_decide.mpr ⟨And.right, fun q => ⟨c, q⟩⟩
        rw [e] at hR
        walk_at "rf"
        exact hR
      · have e : decide (48 ≤ b ∧ b ≤ 51) = false := decide_eq_false fun q => c q.1
        rw [e] at hR
        walk_at "rf"
        exact hR
    refine r_ite (fun c2 => ?_) (fun c2 => ?_)
    · rw [if_pos c2]
      walk_at "rf"
      refine r_fsetE hA nb.cl_SexpEscape nb.na_SexpEscape__base (few_SexpEscape) pt_SexpEscape__base fun H1 hA1 f1 => ?_
      walk_at "rf"
      refine r_fsetE hA1 nb.cl_SexpEscape nb.na_SexpEscape__missing (few_SexpEscape) pt_SexpEscape__missing fun H2 hA2 f2 => ?_
      walk_at "rf"
      refine ⟨_, _, rfl, a, { s with b := some 8, m := 3 }, 8, b - 48, rfl, rfl, ⟨dx, hA2⟩, rfl, by decide, by decide, fun H3 h3 c3 => ?_⟩
      walk_at "rf"
      exact ⟨h3, rfl, (show Ch [a] H H2 by walk_at "ch").trans c3⟩
    · rw [if_neg c2] at h ⊢
      obtain ⟨ta, et, tt⟩ := k_SHORT_ESCAPES
      subst et
      walk_at "rf"
      refine ⟨ta, _, rfl, tt, ?_⟩
      walk_at "rf"
      refine ⟨.inl b, rfl, ?_⟩
      rw [val_short]
      walk_at "rf"
      refine r_fsetE hA nb.cl_SexpEscape nb.na_SexpEscape_octet (few_SexpEscape) pt_SexpEscape_octet fun H1 hA1 f1 => ?_
      walk_at "rf"
      refine r_ite (fun c3 => ?_) (fun c3 => ?_)
      · rw [decide_eq_true c3, Bool.true_or] at h
        walk_at "rf"
        refine r_fsetE hA1 nb.cl_SexpEscape nb.na_SexpEscape_is_done (few_SexpEscape) pt_SexpEscape_is_done fun H2 hA2 f2 => ?_
        walk_at "rf"
        exact h H2 ⟨dx, hA2⟩ (by walk_at "ch")
      · rw [decide_eq_false c3, Bool.false_or] at h
        walk_at "rf"
        refine r_fsetE hA1 nb.cl_SexpEscape nb.na_SexpEscape_is_done (few_SexpEscape) pt_SexpEscape_is_done fun H2 hA2 f2 => ?_
        have es : (!decide (optV (shortE b) = V.non)) = (shortE b).isSome := by cases shortE b <;> simp [optV]
        rw [es] at hA2
        walk_at "rf"
        exact h H2 ⟨dx, hA2⟩ (by walk_at "ch")
  · rintro σ H1 ⟨h1, h2, c1⟩
    walk_at "rf"
    rw [h2] at h
    exact h H1 h1 c1
theorem ok_SexpEscape_take (F : FunD K "take" "SexpEscape.take" (defArgs s_SexpEscape_take) (defBody s_SexpEscape_take) (defScope s_SexpEscape_take) [] [] (meAd "SexpEscape" "take" K) fd) (nb : Nm w K mg) (c_hex_worth : Cal P w K mg base 1 "hex_worth" sp_hex_worth []) (m_SexpEscape__take_first : Met P w K mg base 2 (C_SexpEscape K) "_take_first" (sp_SexpEscape__take_first K) []) (m_SexpEscape__take_digit : Met P w K mg base 1 (C_SexpEscape K) "_take_digit" (sp_SexpEscape__take_digit K) []) : Met P w K mg base 3 (C_SexpEscape K) "take" (sp_SexpEscape_take K) [] := by
  refine metD F nb.cl_SexpEscape nb.me_SexpEscape_take sc_SexpEscape_take (fun _ _ _ _ _ _ us hl => match us, hl with | [_, _], _ => rfl) len2 (fun cdv A outer s H vs Q E hr h => ⟨_, (pss_cons (ps_if (pt_cmpR op_isN (pe_fld (pv 0) rfl) pe_non (nomark _))
    (pss_one (ps_ret (pe_mt m_SexpEscape__take_first hr (by decide) (pv 0) (pa_cons (pv 1) pa_nil))))
    pss_nil)
    (pss_cons (ps_set (i := 2) sc_SexpEscape_take.nd rfl (Or.inl rfl) (pe_c c_hex_worth hr (by decide) rfl (pa_cons (pv 1) pa_nil)))
    (pss_cons (ps_if (PW.pt (pw_or (pt_cmpR op_isN (pv 2) pe_non (nomark _)) (pw_or1 (pt_cmpR op_ge (pv 2) (pe_fld (pv 0) rfl) (nomark _)))))
    (pss_one (ps_ret pe_bl))
    pss_nil)
    (pss_cons (ps_expr (pe_mt m_SexpEscape__take_digit hr (by decide) (pv 0) (pa_cons (pv 2) pa_nil)))
    (pss_one (ps_ret pe_bl)))))), ?_⟩)
  obtain ⟨_, _, rfl, a, s, v, rfl, rfl, ⟨dx, hA⟩, hb, h⟩ := h
  obtain ⟨d, o, b', m, w'⟩ := s
  cases b' with
  | none =>
    walk_at "rf"
    rw [if_pos (show decide (optV none = V.non) = true from rfl)]
    walk_at "rf"
    exact ⟨_, _, rfl, a, _, v, rfl, rfl, ⟨dx, hA⟩, h⟩
  | some b =>
    walk_at "rf"
    rw [if_neg (show ¬ decide (optV (some b) = V.non) = true by simp [optV])]
    walk_at "rf"
    refine ⟨_, rfl, v, rfl, ?_⟩
    unfold esTake at h
    cases hw : hexW v with
    | none =>
      simp only [hw] at h
      walk_at "rf"
      rw [if_pos (show decide (optV none = V.non) = true from rfl), if_pos rfl]
      walk_at "rf"
      exact h H ⟨dx, hA⟩ Ch.refl
    | some u =>
      simp only [hw] at h
      walk_at "rf"
      rw [if_neg (show ¬ decide (optV (some u) = V.non) = true by simp [optV])]
      walk_at "rf"
      show rI0 (fun i j => V.bl (decide (j ≤ i))) (.int u) (.int b) H _
      refine r_I0 ?_
      walk_at "rf"
      refine r_ite (fun c => ?_) (fun c => ?_)
      · rw [if_pos c] at h
        walk_at "rf"
        exact h H ⟨dx, hA⟩ Ch.refl
      · rw [if_neg c] at h
        walk_at "rf"
        obtain ⟨b0, b16⟩ := hb b rfl
        refine ⟨_, _, rfl, a, _, b, u, rfl, rfl, ⟨dx, hA⟩, rfl, b0, b16, fun H1 h1 c1 => ?_⟩
        walk_at "rf"
        exact h H1 h1 c1
end

/-! ### the program's Base64 -/
structure B64 where
  oc : List Int
  dg : Int
  pd : Int
  rs : Int
def b640 : B64 := ⟨[], 0, 0, 0⟩
def B64At (K : Frg) (H : Hp) (a l : Addr) (s : B64) : Prop := ∃ dx, H a = some (.ins (C_Base64 K) dx (fs_Base64 (.ref l) (.int s.dg) (.int s.pd) (.int s.rs))) ∧ H l = some (.lst (s.oc.map V.int))
structure B64R where
  f : Int
  l : Int
  w : Int
def rows64 : List B64R := [⟨65, 90, 0⟩, ⟨97, 122, 26⟩, ⟨48, 57, 52⟩, ⟨43, 43, 62⟩, ⟨47, 47, 63⟩]
def B64R.dat (r : B64R) : PyData := .tuple [.int r.f, .int r.l, .int r.w]
def B64R.is (r : B64R) (b : Int) : Bool := decide (r.f ≤ b ∧ b ≤ r.l)
def worth64 (b : Int) : Option Int := (rows64.find? (·.is b)).map fun r => r.w + b - r.f
def pad64 (s : B64) : Bool × B64 := if s.dg % 4 < 2 ∨ s.dg % 4 + s.pd > 3 ∨ s.rs ≠ 0 then (false, s) else (true, { s with pd := s.pd + 1 })
def dig64 (s : B64) (w : Int) : B64 :=
  if s.dg % 4 = 0 then ⟨s.oc, s.dg + 1, s.pd, s.rs * 64 + w⟩ else ⟨s.oc ++ [(s.rs * 64 + w) / 2 ^ (6 - 2 * (s.dg % 4)).toNat], s.dg + 1, s.pd, (s.rs * 64 + w) % 2 ^ (6 - 2 * (s.dg % 4)).toNat⟩
def take64 (s : B64) (b : Int) : Bool × B64 :=
  if b = 61 then pad64 s else match worth64 b with
    | none => (false, s)
    | some w => if s.pd > 0 then (false, s) else (true, dig64 s w)
def sp__worth_of (K : Frg) : Sp := sp1 fun o H Q _ => ∃ b, o = .int b ∧ (∀ w, worth64 b = some w → Q (.int w) H) ∧ (worth64 b = none → Q .non H)
def sp_Base64___init__ (K : Frg) : Sp := sp1 fun p H Q _ => ∃ a dx, p = .ref a ∧ H a = some (.ins (C_Base64 K) dx []) ∧ ∀ l H', H l = none → l ≠ a → B64At K H' a l b640 → (∀ b u, b ≠ a → H b = some u → H' b = some u) → Q .non H'
def sp_Base64_is_whole (K : Frg) : Sp := sp1 fun p H Q _ => ∃ a l s, p = .ref a ∧ B64At K H a l s ∧ Q (.bl (decide ((s.dg + s.pd) % 4 = 0))) H
def sp_Base64__take_pad (K : Frg) : Sp := sp1 fun p H Q _ => ∃ a l s, p = .ref a ∧ B64At K H a l s ∧ ∀ H', B64At K H' a l (pad64 s).2 → But a l H H' → Q (.bl (pad64 s).1) H'
def sp_Base64__take_digit (K : Frg) : Sp := sp2 fun p o H Q _ => ∃ a l s w, p = .ref a ∧ o = .int w ∧ B64At K H a l s ∧ s.oc.length < sizeLine ∧ 0 ≤ s.dg ∧ ∀ H', B64At K H' a l (dig64 s w) → But a l H H' → Q .non H'
def sp_Base64_take (K : Frg) : Sp := sp2 fun p o H Q _ => ∃ a l s b, p = .ref a ∧ o = .int b ∧ B64At K H a l s ∧ s.oc.length < sizeLine ∧ 0 ≤ s.dg ∧ ∀ H', B64At K H' a l (take64 s b).2 → But a l H H' → Q (.bl (take64 s b).1) H'






theorem b64_ne {K : Frg} {H : Hp} {a l : Addr} {s : B64} (h : B64At K H a l s) : l ≠ a := by
  obtain ⟨dx, h1, h2⟩ := h
  rintro rfl
  rw [h1] at h2
  cases h2
section
variable {P : Program} {w : World} {K : PySem.W.Frag} {mg : Str → Option Value} {base : Heap} {f : Addr} {fd : FuncData}
theorem ok_Base64_is_whole (F : FunD K "is_whole" "Base64.is_whole" (defArgs s_Base64_is_whole) (defBody s_Base64_is_whole) (defScope s_Base64_is_whole) [] [] (prAd "Base64" "is_whole" K) fd) (nb : Nm w K mg) : Prp P w K mg base 1 (C_Base64 K) "is_whole" (sp_Base64_is_whole K) := by
  refine prpD F nb.cl_Base64 nb.pr_Base64_is_whole sc_Base64_is_whole (fun _ _ _ _ _ _ us hl => match us, hl with | [_], _ => rfl) len1 (fun cdv A outer s H vs Q E hr h => ⟨_, (pss_one (ps_ret (pe_cmpR op_eq (pe_op op_mod (pe_op op_add (pe_fld (pv 0) rfl) (pe_fld (pv 0) rfl)) pe_int) pe_int (nomark _)))), ?_⟩)
  obtain ⟨_, rfl, a, l, s, rfl, ⟨dx, hA, hL⟩, h⟩ := h
  walk_at "rd"
  refine r_fget hA nb.cl_Base64 nb.na_Base64__digits lk_Base64__digits ?_
  walk_at "rd"
  refine r_fget hA nb.cl_Base64 nb.na_Base64__pads lk_Base64__pads ?_
  walk_at "rd"
  exact h
theorem ok_Base64___init__ (F : FunD K "__init__" "Base64.__init__" (defArgs s_Base64___init__) (defBody s_Base64___init__) (defScope s_Base64___init__) [] [] (meAd "Base64" "__init__" K) fd) (nb : Nm w K mg) : Mak P w K mg base 1 "Base64" (C_Base64 K) (sp_Base64___init__ K) [] := by
  refine makD F nb.mk_Base64 nb.g_Base64 sc_Base64___init__ (fun _ _ _ _ _ _ us hl => match us, hl with | [_], _ => rfl) len1 (fun cdv A outer s H vs Q E hr h => ⟨_, (pss_cons (ps_fld (pv 0) (pe_lst pa_nil) rfl)
    (pss_cons (ps_fld (pv 0) pe_int rfl)
    (pss_cons (ps_fld (pv 0) pe_int rfl)
    (pss_one (ps_fld (pv 0) pe_int rfl))))), ?_⟩)
  obtain ⟨_, rfl, a, dx, rfl, hA, h⟩ := h
  walk_at "rd"
  refine ⟨by show 0 ≤ sizeLine; decide, fun l hl => ?_⟩
  have hne : l ≠ a := fun z => by rw [z, hA] at hl; cases hl
  have hA0 : upd H l (.lst []) a = some (.ins (C_Base64 K) dx []) := (upd_ne (Ne.symm hne)).trans hA
  have hL0 : upd H l (.lst []) l = some (.lst []) := upd_same
  have f0 : ∀ b u, b ≠ a → H b = some u → upd H l (.lst []) b = some u := fun b u h1 h2 => same_upd hl _ b u h2
  generalize upd H l (.lst []) = H0 at hA0 hL0 f0 ⊢
  walk_at "rd"
  refine r_fsetK hA0 nb.cl_Base64 nb.na_Base64_octets (by decide) (in_Base64_octets) fun H1 hA1 f1 => ?_
  walk_at "rd"
  refine r_fsetK hA1 nb.cl_Base64 nb.na_Base64__digits (by simp) (in_Base64__digits) fun H2 hA2 f2 => ?_
  walk_at "rd"
  refine r_fsetK hA2 nb.cl_Base64 nb.na_Base64__pads (by simp) (in_Base64__pads) fun H3 hA3 f3 => ?_
  walk_at "rd"
  refine r_fsetK hA3 nb.cl_Base64 nb.na_Base64__rest (by simp) (in_Base64__rest) fun H4 hA4 f4 => ?_
  refine h l H4 hl hne ⟨dx, hA4, ?_⟩ fun p u p1 z => ?_
  · rw [f4 l hne, f3 l hne, f2 l hne, f1 l hne]
    exact hL0
  · rw [f4 p p1, f3 p p1, f2 p p1, f1 p p1]
    exact f0 p u p1 z
theorem ok_Base64__take_pad (F : FunD K "_take_pad" "Base64._take_pad" (defArgs s_Base64__take_pad) (defBody s_Base64__take_pad) (defScope s_Base64__take_pad) [] [] (meAd "Base64" "_take_pad" K) fd) (nb : Nm w K mg) : Met P w K mg base 1 (C_Base64 K) "_take_pad" (sp_Base64__take_pad K) [] := by
  refine metD F nb.cl_Base64 nb.me_Base64__take_pad sc_Base64__take_pad (fun _ _ _ _ _ _ us hl => match us, hl with | [_], _ => rfl) len1 (fun cdv A outer s H vs Q E hr h => ⟨_, (pss_cons (ps_set (i := 1) sc_Base64__take_pad.nd rfl (Or.inl rfl) (pe_op op_mod (pe_fld (pv 0) rfl) pe_int))
    (pss_cons (ps_if (PW.pt (pw_or (pt_cmpR op_lt (pv 1) pe_int (nomark _)) (pw_or (pt_cmpR op_gt (pe_op op_add (pv 1) (pe_fld (pv 0) rfl)) pe_int (nomark _)) (pw_or1 (pt_cmpR op_ne (pe_fld (pv 0) rfl) pe_int (nomark _))))))
    (pss_one (ps_ret pe_bl))
    pss_nil)
    (pss_cons (ps_fld (pv 0) (pe_op op_add (pe_fld (pv 0) rfl) pe_int) rfl)
    (pss_one (ps_ret pe_bl))))), ?_⟩)
  obtain ⟨_, rfl, a, l, s, rfl, hB, h⟩ := h
  have hne := b64_ne hB
  obtain ⟨dx, hA, hL⟩ := id hB
  have no : (s.dg % 4 < 2 ∨ s.dg % 4 + s.pd > 3 ∨ s.rs ≠ 0) → Q (.bl false) H := fun c => by
    have e : pad64 s = (false, s) := if_pos c
    rw [e] at h
    exact h H hB fun _ _ _ _ z => z
  walk_at "rd"
  refine r_fget hA nb.cl_Base64 nb.na_Base64__digits lk_Base64__digits ?_
  walk_at "ri"
  refine r_ifB (decide (s.dg % 4 < 2 ∨ s.dg % 4 + s.pd > 3 ∨ s.rs ≠ 0)) ?_ ?_
  · intro R hR
    walk_at "rd"
    refine r_ite (fun c1 => ?_) (fun c1 => ?_)
    · rw [decide_eq_true (show s.dg % 4 < 2 ∨ s.dg % 4 + s.pd > 3 ∨ s.rs ≠ 0 from .inl c1)] at hR
      walk_at "rd"
      exact hR
    walk_at "rd"
    refine r_fget hA nb.cl_Base64 nb.na_Base64__pads lk_Base64__pads ?_
    walk_at "rd"
    refine r_ite (fun c2 => ?_) (fun c2 => ?_)
    · rw [decide_eq_true (show s.dg % 4 < 2 ∨ s.dg % 4 + s.pd > 3 ∨ s.rs ≠ 0 from .inr (.inl c2))] at hR
      walk_at "rd"
      exact hR
    walk_at "rd"
    refine r_fget hA nb.cl_Base64 nb.na_Base64__rest lk_Base64__rest ?_
    walk_at "rd"
    have e : (!decide (s.rs = 0)) = decide (s.dg % 4 < 2 ∨ s.dg % 4 + s.pd > 3 ∨ s.rs ≠ 0) := by
      by_cases c3 : s.rs = 0
      · rw [decide_eq_true c3, decide_eq_false (show ¬ (s.dg % 4 < 2 ∨ s.dg % 4 + s.pd > 3 ∨ s.rs ≠ 0) by omega)]
        rfl
      · rw [decide_eq_false c3, decide_eq_true (show s.dg % 4 < 2 ∨ s.dg % 4 + s.pd > 3 ∨ s.rs ≠ 0 from .inr (.inr c3))]
        rfl
    rw [e]
    exact hR
  refine r_ite (fun c => ?_) (fun c => ?_)
  · walk_at "rd"
    exact no c
  · have e : pad64 s = (true, { s with pd := s.pd + 1 }) := if_neg c
    rw [e] at h
    walk_at "rd"
    refine r_fget hA nb.cl_Base64 nb.na_Base64__pads lk_Base64__pads ?_
    walk_at "rd"
    refine r_fsetK hA nb.cl_Base64 nb.na_Base64__pads (few_Base64) pt_Base64__pads fun H1 hA1 f1 => ?_
    walk_at "rd"
    exact h H1 ⟨dx, hA1, by rw [f1 l hne]; exact hL⟩ fun p u p1 _ z => by rw [f1 p p1]; exact z
theorem ok__worth_of (F : FunD K "_worth_of" "_worth_of" (defArgs s__worth_of) (defBody s__worth_of) (defScope s__worth_of) [] [] (glAd "_worth_of" K) fd) (m : mg "_worth_of" = some (.ref (glAd "_worth_of" K))) (nb : Nm w K mg) : Cal P w K mg base 1 "_worth_of" (sp__worth_of K) [] := by
  obtain ⟨v_ROWS, u_ROWS, e_ROWS, r_ROWS, k_ROWS⟩ := nb.g_ROWS
  refine calD F m sc__worth_of (fun _ _ _ _ _ _ us hl => match us, hl with | [_], _ => rfl) len1 (fun cdv A outer s H vs Q E hr h => ⟨_, (pss_cons (ps_for PassesOwn.never rfl (pi_tup (pe_gc rfl ⟨u_ROWS, e_ROWS, r_ROWS⟩)) (pg_tup rfl (pgs_cons (pg_name (i := 1) sc__worth_of.nd rfl (Or.inl rfl)) (pgs_cons (pg_name (i := 2) sc__worth_of.nd rfl (Or.inl rfl)) (pgs_cons (pg_name (i := 3) sc__worth_of.nd rfl (Or.inl rfl)) pgs_nil))))
    (pss_one (ps_if (pt_chain op_le op_le (pv 1) (pv 0) (pv 2))
    (pss_one (ps_ret (pe_op op_sub (pe_op op_add (pv 3) (pv 0)) (pv 1))))
    pss_nil)))
    (pss_one (ps_ret pe_non))), ?_⟩)
  obtain ⟨_, rfl, b, rfl, hw, hn⟩ := h
  obtain ⟨tf, xs, rfl, hT, hD⟩ := dp_tup (k_ROWS H)
  have hD : DpAll K H xs (rows64.map B64R.dat) := hD
  have eN : xs.length = rows64.length := by rw [dp_len hD, List.length_map]
  walk_at "rd"
  refine ⟨tf, rfl, ⟨xs, hT⟩, r_eachT (xs := xs) (fun i σ H' => H = H' ∧ (∀ j row, j < i → rows64[j]? = some row → row.is b = false) ∧ ∃ y1 y2 y3, σ = [some (.int b), y1, y2, y3])
    ⟨rfl, fun j row h => absurd h (Nat.not_lt_zero _), _, _, _, rfl⟩ ?_ ?_ ?_⟩
  · rintro i σ _ ⟨rfl, _⟩
    exact hT
  · rintro i x σ _ hx ⟨rfl, hj, y1, y2, y3, rfl⟩
    obtain ⟨d, hd, hxd⟩ := dp_get hD hx
    rw [List.getElem?_map] at hd
    obtain ⟨row, hrow, rfl⟩ := Option.map_eq_some_iff.mp hd
    obtain ⟨tr, zs, rfl, hr, hz⟩ := dp_tup (show Dp K H x (.tuple ([row.f, row.l, row.w].map PyData.int)) from hxd)
    have hz := dp_ints _ hz
    subst hz
    have hr : SqT K H tr [.int row.f, .int row.l, .int row.w] := hr
    refine r_gtup hr rfl ?_
    have nxt : row.is b = false → ∀ j row', j < i + 1 → rows64[j]? = some row' → row'.is b = false := fun hf j row' hji hr' => by
      by_cases e : j = i
      · subst e
        rw [hrow] at hr'
        cases hr'
        exact hf
      · exact hj j row' (by omega) hr'
    walk_at "rd"
    refine r_ite (fun c1 => ?_) (fun c1 => ?_)
    · walk_at "rd"
      refine r_ite (fun c2 => ?_) (fun c2 => ?_)
      · have hf : rows64.find? (·.is b) = some row := by
          obtain ⟨hi, ei⟩ := List.getElem?_eq_some_iff.mp hrow
          refine List.find?_eq_some_iff_getElem.mpr ⟨decide_eq_true ⟨c1, c2⟩, i, hi, ei, fun j hji => ?_⟩
          rw [hj j _ hji (List.getElem?_eq_getElem (Nat.lt_trans hji hi))]
          rfl
        walk_at "rd"
        exact hw _ (by unfold worth64; rw [hf]; rfl)
      · walk_at "rd"
        exact ⟨rfl, nxt (decide_eq_false fun z => c2 z.2), _, _, _, rfl⟩
    · walk_at "rd"
      exact ⟨rfl, nxt (decide_eq_false fun z => c1 z.1), _, _, _, rfl⟩
  · rintro σ _ ⟨rfl, hj, y1, y2, y3, rfl⟩
    have hf : rows64.find? (·.is b) = none := by
      refine List.find?_eq_none.mpr fun row hr => ?_
      obtain ⟨j, hjl, ej⟩ := List.getElem_of_mem hr
      rw [hj j row (by rw [eN]; exact hjl) (by rw [List.getElem?_eq_getElem hjl, ej])]
      decide
    walk_at "rd"
    exact hn (by unfold worth64; rw [hf]; rfl)
theorem ok_Base64_take (F : FunD K "take" "Base64.take" (defArgs s_Base64_take) (defBody s_Base64_take) (defScope s_Base64_take) [] [] (meAd "Base64" "take" K) fd) (nb : Nm w K mg) (c__worth_of : Cal P w K mg base 1 "_worth_of" (sp__worth_of K) []) (m_Base64__take_pad : Met P w K mg base 1 (C_Base64 K) "_take_pad" (sp_Base64__take_pad K) []) (m_Base64__take_digit : Met P w K mg base 1 (C_Base64 K) "_take_digit" (sp_Base64__take_digit K) []) : Met P w K mg base 2 (C_Base64 K) "take" (sp_Base64_take K) [] := by
  refine metD F nb.cl_Base64 nb.me_Base64_take sc_Base64_take (fun _ _ _ _ _ _ us hl => match us, hl with | [_, _], _ => rfl) len2 (fun cdv A outer s H vs Q E hr h => ⟨_, (pss_cons (ps_if (pt_cmpR op_eq (pv 1) (pe_gc rfl nb.g_PAD) (nomark _))
    (pss_one (ps_ret (pe_mt0 m_Base64__take_pad hr (by decide) (pv 0))))
    pss_nil)
    (pss_cons (ps_set (i := 2) sc_Base64_take.nd rfl (Or.inl rfl) (pe_c c__worth_of hr (by decide) rfl (pa_cons (pv 1) pa_nil)))
    (pss_cons (ps_if (PW.pt (pw_or (pt_cmpR op_isN (pv 2) pe_non (nomark _)) (pw_or1 (pt_cmpR op_gt (pe_fld (pv 0) rfl) pe_int (nomark _)))))
    (pss_one (ps_ret pe_bl))
    pss_nil)
    (pss_cons (ps_expr (pe_mt m_Base64__take_digit hr (by decide) (pv 0) (pa_cons (pv 2) pa_nil)))
    (pss_one (ps_ret pe_bl)))))), ?_⟩)
  obtain ⟨_, _, rfl, a, l, s, b, rfl, rfl, hB, hl, h0, h⟩ := h
  have hne := b64_ne hB
  obtain ⟨dx, hA, hL⟩ := id hB
  walk_at "rd"
  refine r_ite (fun c => ?_) (fun c => ?_)
  · have e : take64 s b = pad64 s := if_pos c
    rw [e] at h
    walk_at "rd"
    refine r_mget hA no_Base64__take_pad ?_
    walk_at "rd"
    exact ⟨_, rfl, a, l, s, rfl, hB, h⟩
  have e : take64 s b = match worth64 b with
    | none => (false, s)
    | some w => if s.pd > 0 then (false, s) else (true, dig64 s w) := if_neg c
  walk_at "rd"
  refine ⟨_, rfl, b, rfl, fun w hw => ?_, fun hn => ?_⟩
  · rw [hw] at e
    have e : take64 s b = if s.pd > 0 then (false, s) else (true, dig64 s w) := e
    walk_at "rd"
    refine r_iteN (by intro q; cases q) ?_
    walk_at "rd"
    refine r_fget hA nb.cl_Base64 nb.na_Base64__pads lk_Base64__pads ?_
    walk_at "rd"
    refine r_ite (fun c2 => ?_) (fun c2 => ?_)
    · rw [if_pos c2] at e
      rw [e] at h
      walk_at "rd"
      exact h H hB fun _ _ _ _ z => z
    · rw [if_neg c2] at e
      rw [e] at h
      walk_at "rd"
      refine r_mget hA no_Base64__take_digit ?_
      walk_at "rd"
      refine ⟨_, _, rfl, a, l, s, w, rfl, rfl, hB, hl, h0, fun H' h1 h2 => ?_⟩
      walk_at "rd"
      exact h H' h1 h2
  · rw [hn] at e
    have e : take64 s b = (false, s) := e
    rw [e] at h
    walk_at "rd"
    refine r_itep rfl ?_
    walk_at "rd"
    exact h H hB fun _ _ _ _ z => z
theorem ok_Base64__take_digit (F : FunD K "_take_digit" "Base64._take_digit" (defArgs s_Base64__take_digit) (defBody s_Base64__take_digit) (defScope s_Base64__take_digit) [] [] (meAd "Base64" "_take_digit" K) fd) (nb : Nm w K mg) : Met P w K mg base 1 (C_Base64 K) "_take_digit" (sp_Base64__take_digit K) [] := by
  refine metD F nb.cl_Base64 nb.me_Base64__take_digit sc_Base64__take_digit (fun _ _ _ _ _ _ us hl => match us, hl with | [_, _], _ => rfl) len2 (fun cdv A outer s H vs Q E hr h => ⟨_, (pss_cons (ps_set (i := 2) sc_Base64__take_digit.nd rfl (Or.inl rfl) (pe_op op_add (pe_op op_mul (pe_fld (pv 0) rfl) pe_int) (pv 1)))
    (pss_cons (ps_set (i := 3) sc_Base64__take_digit.nd rfl (Or.inl rfl) (pe_op op_mod (pe_fld (pv 0) rfl) pe_int))
    (pss_cons (ps_fld (pv 0) (pe_op op_add (pe_fld (pv 0) rfl) pe_int) rfl)
    (pss_cons (ps_if (pt_cmpR op_eq (pv 3) pe_int (nomark _))
    (pss_cons (ps_fld (pv 0) (pv 2) rfl)
    (pss_one ps_retN))
    pss_nil)
    (pss_cons (ps_asg (pe_callB call_divmodW (by rfl) nb.divmod (by decide +kernel) (pa_cons (pv 2) (pa_cons (pe_op op_shl pe_int (pe_op op_sub pe_int (pe_op op_mul pe_int (pv 3)))) pa_nil))) (pg_tup rfl (pgs_cons (pg_name (i := 4) sc_Base64__take_digit.nd rfl (Or.inl rfl)) (pgs_cons (pg_fld (pv 0)) pgs_nil))))
    (pss_one (ps_expr (pe_bm PySem.F.plainAttrs_list PySem.F.slot_list_append PySem.F.type_list_append mt_append (pe_fld (pv 0) rfl) (pa_cons (pv 4) pa_nil))))))))), ?_⟩)
  obtain ⟨_, _, rfl, a, l, s, w', rfl, rfl, hB, hl, h0, h⟩ := h
  have hne := b64_ne hB
  obtain ⟨dx, hA, hL⟩ := id hB
  walk_at "rd"
  refine r_fget hA nb.cl_Base64 nb.na_Base64__rest lk_Base64__rest ?_
  walk_at "rd"
  refine r_fget hA nb.cl_Base64 nb.na_Base64__digits lk_Base64__digits ?_
  walk_at "rd"
  refine r_fget hA nb.cl_Base64 nb.na_Base64__digits lk_Base64__digits ?_
  walk_at "rd"
  refine r_fsetK hA nb.cl_Base64 nb.na_Base64__digits (few_Base64) pt_Base64__digits fun H1 hA1 f1 => ?_
  walk_at "rd"
  refine r_ite (fun c => ?_) (fun c => ?_)
  · have e : dig64 s w' = ⟨s.oc, s.dg + 1, s.pd, s.rs * 64 + w'⟩ := if_pos c
    rw [e] at h
    walk_at "rd"
    refine r_fsetK hA1 nb.cl_Base64 nb.na_Base64__rest (few_Base64) pt_Base64__rest fun H2 hA2 f2 => ?_
    walk_at "rd"
    refine h H2 ⟨dx, hA2, by rw [f2 l hne, f1 l hne]; exact hL⟩ fun p u p1 _ z => by rw [f2 p p1, f1 p p1]; exact z
  · have e : dig64 s w' = ⟨s.oc ++ [(s.rs * 64 + w') / 2 ^ (6 - 2 * (s.dg % 4)).toNat], s.dg + 1, s.pd, (s.rs * 64 + w') % 2 ^ (6 - 2 * (s.dg % 4)).toNat⟩ := if_neg c
    rw [e] at h
    walk_at "rd"
    refine r_I (C := CPow) ⟨by omega, by omega, by decide⟩ ?_
    rw [Int.one_mul]
    have hk : (6 - 2 * (s.dg % 4)).toNat ≤ 6 := by omega
    generalize (6 - 2 * (s.dg % 4)).toNat = k at hk h ⊢
    have p1 : (0 : Int) < 2 ^ k := Int.pow_pos (by decide)
    have p2 : (2 : Int) ^ k ≤ 64 := by
      have : (2 : Int) ^ k ≤ 2 ^ 6 := by exact_mod_cast Nat.pow_le_pow_right (n := 2) (by decide) hk
      exact this
    walk_at "rd"
    refine ⟨_, _, rfl, ⟨p1, PyProof.noPylong_small (by omega)⟩, fun q nq => ?_⟩
    have hA2 := same_upd nq (.tup [.int ((s.rs * 64 + w') / 2 ^ k), .int ((s.rs * 64 + w') % 2 ^ k)]) _ _ hA1
    have hL2 := same_upd nq (.tup [.int ((s.rs * 64 + w') / 2 ^ k), .int ((s.rs * 64 + w') % 2 ^ k)]) l _ (by rw [f1 l hne]; exact hL)
    have b2 : But a l H (upd H1 q (.tup [.int ((s.rs * 64 + w') / 2 ^ k), .int ((s.rs * 64 + w') % 2 ^ k)])) := fun p u p1 p2 z => same_upd nq _ _ _ (by rw [f1 p p1]; exact z)
    refine r_gtup (SqT.of upd_same) rfl ?_
    generalize upd H1 q (.tup [.int ((s.rs * 64 + w') / 2 ^ k), .int ((s.rs * 64 + w') % 2 ^ k)]) = H2 at hA2 hL2 b2 ⊢
    walk_at "rd"
    refine r_gfldV rfl hA2 nb.cl_Base64 nb.na_Base64__rest (few_Base64) pt_Base64__rest fun H3 hA3 f3 => ?_
    walk_at "rd"
    refine r_fget hA3 nb.cl_Base64 nb.na_Base64_octets lk_Base64_octets ?_
    have hL3 : H3 l = some (.lst (s.oc.map V.int)) := by rw [f3 l hne]; exact hL2
    refine ⟨tyL hL3, ?_⟩
    walk_at "rd"
    refine r_appK hL3 (by simpa using hl) fun H4 hL4 f4 => ?_
    refine h H4 ⟨dx, ?_, ?_⟩ fun p u p1 p2 z => ?_
    · rw [f4 a (Ne.symm hne)]
      exact hA3
    · rw [hL4, map_snoc]
    · rw [f4 p p2, f3 p p1]
      exact b2 p u p1 p2 z
end

/-! ### the quoted atom -/




structure Qu where
  d : Bool
  os : List Int
  e : Option Es
def qu0 : Qu := ⟨false, [], none⟩
def eV : Option Addr → V
  | none => .non
  | some x => .ref x
def EsO (K : Frg) (H : Hp) : Option Addr → Option Es → Prop
  | none, none => True
  | some x, some s => EsA K H x s
  | none, some _ => False
  | some _, none => False
def quOwn (a l : Addr) (e : Option Addr) : List Addr := a :: l :: e.toList
def QuA (K : Frg) (H : Hp) (a l : Addr) (e : Option Addr) (s : Qu) : Prop := ∃ dx, H a = some (.ins (C_SexpQuoted K) dx (fs_SexpQuoted (.bl s.d) (.bl false) (.ref l) (eV e))) ∧ H l = some (.lst (s.os.map V.int)) ∧ EsO K H e s.e ∧ (quOwn a l e).Nodup
theorem EsO.get {K : Frg} {H H' : Hp} {o : List Addr} (c : Ch o H H') : ∀ {e : Option Addr} {s : Option Es}, EsO K H e s → (∀ x ∈ e.toList, x ∉ o) → EsO K H' e s
  | none, none, _, _ => trivial
  | some x, some s, h, n => EsA.get h c (n x (by simp))
  | none, some _, h, _ => h.elim
  | some _, none, h, _ => h.elim
theorem QuA.get {K : Frg} {H H' : Hp} {a l : Addr} {e : Option Addr} {s : Qu} {o : List Addr} (h : QuA K H a l e s) (c : Ch o H H') (n : ∀ x ∈ quOwn a l e, x ∉ o) : QuA K H' a l e s := by
  obtain ⟨dx, h1, h2, h3, h4⟩ := h
  exact ⟨dx, c.get (n _ (by simp [quOwn])) h1, c.get (n _ (by simp [quOwn])) h2, h3.get c fun x hx => n x (by simp [quOwn] at hx ⊢; simp [hx]), h4⟩
def quTake (s : Qu) (o : Int) : Bool × Qu := match s.e with
  | some t =>
    if (esTake t o).1 = false then (false, { s with e := some (esTake t o).2 })
    else if (esTake t o).2.d = true then (true, { s with os := s.os ++ (esTake t o).2.o.toList, e := none }) else (true, { s with e := some (esTake t o).2 })
  | none => if o = 34 then (true, { s with d := true }) else if o = 92 then (true, { s with e := some es0 }) else (decide (32 ≤ o) && decide (o ≤ 126), { s with os := s.os ++ [o] })
def QuOk (s : Qu) : Prop := s.os.length < sizeLine ∧ ∀ t, s.e = some t → ∀ b, t.b = some b → 0 ≤ b ∧ b ≤ 16
def SpQu (K : Frg) (g : Qu → Prop) : Sp := sp2 fun p o H Q _ => ∃ a l e s b, p = .ref a ∧ o = .int b ∧ QuA K H a l e s ∧ QuOk s ∧ g s ∧ ∀ e' H', (∀ x, e' = some x → e = some x ∨ H x = none) → QuA K H' a l e' (quTake s b).2 → Ch (quOwn a l e) H H' → Q (.bl (quTake s b).1) H'
def sp_SexpQuoted___init__ (K : Frg) : Sp := sp1 fun p H Q _ => ∃ a dx, p = .ref a ∧ H a = some (.ins (C_SexpQuoted K) dx []) ∧ ∀ l H', H l = none → QuA K H' a l none qu0 → Ch [a] H H' → Q .non H'
def sp_SexpQuoted_take (K : Frg) : Sp := SpQu K fun _ => True
def sp_SexpQuoted__take_in_escape (K : Frg) : Sp := SpQu K fun s => s.e ≠ none
def sp_SexpQuoted_leaf (K : Frg) : Sp := sp1 fun p H Q _ => ∃ a l e s, p = .ref a ∧ QuA K H a l e s ∧ ∀ p H', Tp H' p (.tuple [.str "bytes", kd s.os]) → Same H H' → Q p H'
theorem d_esc {K : Frg} {H : Hp} {R : Addr → Hp → Prop} {E : XK} (h : ∀ a H', H a = none → EsA K H' a es0 → Same H H' → R a H') : ∀ x dx, H x = none → H dx = none → dx ≠ x → sp_SexpEscape___init__ K (.ref x :: ([] ++ [])) (upd (upd H dx (.own x)) x (.ins (C_SexpEscape K) dx [])) (fun v H2 => v = .non ∧ R x H2) E := fun a dx ha hd hne =>
  ⟨_, rfl, a, dx, rfl, upd_same, fun H' hN c => ⟨rfl, h a H' ha hN (mk_same ha hd c)⟩⟩
theorem d_quo {K : Frg} {H : Hp} {R : Addr → Hp → Prop} {E : XK} (h : ∀ a l H', H a = none → H l = none → QuA K H' a l none qu0 → Same H H' → R a H') : ∀ x dx, H x = none → H dx = none → dx ≠ x → sp_SexpQuoted___init__ K (.ref x :: ([] ++ [])) (upd (upd H dx (.own x)) x (.ins (C_SexpQuoted K) dx [])) (fun v H2 => v = .non ∧ R x H2) E := fun a dx ha hd hne =>
  ⟨_, rfl, a, dx, rfl, upd_same, fun q H' nq hN c => ⟨rfl, h a q H' ha (mk_free nq) hN (mk_same ha hd c)⟩⟩
section
variable {P : Program} {w : World} {K : PySem.W.Frag} {mg : Str → Option Value} {base : Heap} {f : Addr} {fd : FuncData}
theorem ok_SexpQuoted___init__ (F : FunD K "__init__" "SexpQuoted.__init__" (defArgs s_SexpQuoted___init__) (defBody s_SexpQuoted___init__) (defScope s_SexpQuoted___init__) [] [] (meAd "SexpQuoted" "__init__" K) fd) (nb : Nm w K mg) : Mak P w K mg base 1 "SexpQuoted" (C_SexpQuoted K) (sp_SexpQuoted___init__ K) [] := by
  refine makD F nb.mk_SexpQuoted nb.g_SexpQuoted sc_SexpQuoted___init__ (fun _ _ _ _ _ _ us hl => match us, hl with | [_], _ => rfl) len1 (fun cdv A outer s H vs Q E hr h => ⟨_, (pss_cons (ps_fld (pv 0) pe_bl rfl)
    (pss_cons (ps_fld (pv 0) pe_bl rfl)
    (pss_cons (ps_fld (pv 0) (pe_lstE pa_nil) rfl)
    (pss_one (ps_fld (pv 0) pe_non rfl))))), ?_⟩)
  obtain ⟨_, rfl, a, dx, rfl, hA, h⟩ := h
  walk_at "rf"
  refine r_fsetE hA nb.cl_SexpQuoted nb.na_SexpQuoted_is_done (by decide) (in_SexpQuoted_is_done) fun H1 hA1 f1 => ?_
  walk_at "rf"
  refine r_fsetE hA1 nb.cl_SexpQuoted nb.na_SexpQuoted_can_end (by simp) (in_SexpQuoted_can_end) fun H2 hA2 f2 => ?_
  walk_at "rf"
  refine ⟨by show 0 ≤ sizeLine; decide, fun l H4 nl hL4 s4 => ?_⟩
  have hne : a ≠ l := Same.ne nl hA2
  have c3 : Ch [a] H H2 := by walk_at "ch"
  walk_at "rf"
  refine r_fsetE (s4 _ _ hA2) nb.cl_SexpQuoted nb.na_SexpQuoted__octets (by simp) (in_SexpQuoted__octets) fun H5 hA5 f5 => ?_
  walk_at "rf"
  refine r_fsetE hA5 nb.cl_SexpQuoted nb.na_SexpQuoted__escape (by simp) (in_SexpQuoted__escape) fun H6 hA6 f6 => ?_
  exact h l H6 ((c3.fresh nl).resolve_left (by simp [Ne.symm hne])) ⟨dx, hA6, by walk_at "hl", trivial, by simp [quOwn, hne]⟩ (by walk_at "ch")
theorem ok_SexpQuoted__take_in_escape (F : FunD K "_take_in_escape" "SexpQuoted._take_in_escape" (defArgs s_SexpQuoted__take_in_escape) (defBody s_SexpQuoted__take_in_escape) (defScope s_SexpQuoted__take_in_escape) [] [] (meAd "SexpQuoted" "_take_in_escape" K) fd) (nb : Nm w K mg) (m_SexpEscape_take : Met P w K mg base 3 (C_SexpEscape K) "take" (sp_SexpEscape_take K) []) : Met P w K mg base 4 (C_SexpQuoted K) "_take_in_escape" (sp_SexpQuoted__take_in_escape K) [] := by
  refine metD F nb.cl_SexpQuoted nb.me_SexpQuoted__take_in_escape sc_SexpQuoted__take_in_escape (fun _ _ _ _ _ _ us hl => match us, hl with | [_, _], _ => rfl) len2 (fun cdv A outer s H vs Q E hr h => ⟨_, (pss_cons (ps_if (pt_not (pt_val (pe_mt m_SexpEscape_take hr (by decide) (pe_fld (pv 0) rfl) (pa_cons (pv 1) pa_nil))))
    (pss_one (ps_ret pe_bl))
    pss_nil)
    (pss_cons (ps_if (pt_val (pe_fld (pe_fld (pv 0) rfl) rfl))
    (pss_cons (ps_if (pt_cmpR op_notN (pe_fld (pe_fld (pv 0) rfl) rfl) pe_non (nomark _))
    (pss_one (ps_expr (pe_bm PySem.F.plainAttrs_list PySem.F.slot_list_append PySem.F.type_list_append mt_append (pe_fld (pv 0) rfl) (pa_cons (pe_fld (pe_fld (pv 0) rfl) rfl) pa_nil))))
    pss_nil)
    (pss_one (ps_fld (pv 0) pe_non rfl)))
    pss_nil)
    (pss_one (ps_ret pe_bl)))), ?_⟩)
  obtain ⟨_, _, rfl, a, l, e, s, b, rfl, rfl, ⟨dx, hA, hL, hE, hN⟩, ok, hs, h⟩ := h
  obtain ⟨d, os, t⟩ := s
  cases t with
  | none => exact absurd rfl hs
  | some t =>
  cases e with
  | none => exact hE.elim
  | some x =>
  have hA : H a = some (.ins (C_SexpQuoted K) dx (fs_SexpQuoted (.bl d) (.bl false) (.ref l) (.ref x))) := hA
  have hN' := hN
  simp only [quOwn, Option.toList, List.nodup_cons, List.mem_cons, List.not_mem_nil, or_false, not_or] at hN
  obtain ⟨⟨al, ax⟩, lx, _⟩ := hN
  obtain ⟨de, hX⟩ := id (show EsA K H x t from hE)
  walk_at "rf"
  refine ⟨_, _, rfl, x, t, b, rfl, rfl, hE, ok.2 t rfl, fun H1 h1 c1 => ?_⟩
  have hA1 := c1.get (x := a) (by simp [ax]) hA
  have hL1 := c1.get (x := l) (by simp [lx]) hL
  have k1 : Ch (quOwn a l (some x)) H H1 := c1.mono (by simp [quOwn])
  obtain ⟨de1, hX1⟩ := id h1
  have er : quTake ⟨d, os, some t⟩ b = if (esTake t b).1 = false then (false, ⟨d, os, some (esTake t b).2⟩) else if (esTake t b).2.d = true then (true, ⟨d, os ++ (esTake t b).2.o.toList, none⟩) else (true, ⟨d, os, some (esTake t b).2⟩) := rfl
  rw [er] at h
  clear er
  refine ⟨_, rfl, ?_⟩
  cases e1 : (esTake t b).1 with
  | false =>
    rw [if_pos e1] at h
    walk_at "rf"
    exact h (some x) H1 (fun y hy => .inl hy) ⟨dx, hA1, hL1, h1, hN'⟩ k1
  | true =>
    rw [if_neg (by rw [e1]; decide)] at h
    walk_at "rf"
    cases e2 : (esTake t b).2.d with
    | false =>
      rw [if_neg (by rw [e2]; decide)] at h
      walk_at "rf"
      exact h (some x) H1 (fun y hy => .inl hy) ⟨dx, hA1, hL1, h1, hN'⟩ k1
    | true =>
      rw [if_pos e2] at h
      cases e3 : (esTake t b).2.o with
      | none =>
        rw [e3] at h hX1
        walk_at "rf"
        rw [if_neg (show ¬ (!decide (optV none = V.non)) = true by decide)]
        walk_at "rf"
        walk_at "fs"
        intro H2 hA2 f2
        walk_at "rf"
        exact h none H2 (fun y hy => by cases hy) ⟨dx, hA2, by rw [f2.get (Ne.symm al) hL1]; simp, trivial, by simp [quOwn, al]⟩ (k1.trans (Ch.eb f2 (by simp [quOwn]) Ch.refl))
      | some v =>
        rw [e3] at h hX1
        walk_at "rf"
        rw [if_pos (show (!decide (optV (some v) = V.non)) = true by simp [optV])]
        walk_at "rf"
        refine ⟨tyL hL1, ?_⟩
        walk_at "rf"
        refine r_appE hL1 (by rw [List.length_map]; exact ok.1) fun H2 hL2 f2 => ?_
        have hA2 := f2.get al hA1
        walk_at "rf"
        walk_at "fs"
        intro H3 hA3 f3
        walk_at "rf"
        refine h none H3 (fun y hy => by cases hy) ⟨dx, hA3, ?_, trivial, by simp [quOwn, al]⟩ ((k1.trans (Ch.eb f2 (by simp [quOwn]) Ch.refl)).trans (Ch.eb f3 (by simp [quOwn]) Ch.refl))
        rw [f3.get (Ne.symm al) hL2]
        show _ = some (HO.lst ((os ++ [v]).map V.int))
        rw [List.map_append]
        rfl
theorem ok_SexpQuoted_take (F : FunD K "take" "SexpQuoted.take" (defArgs s_SexpQuoted_take) (defBody s_SexpQuoted_take) (defScope s_SexpQuoted_take) [] [] (meAd "SexpQuoted" "take" K) fd) (nb : Nm w K mg) (k_SexpEscape : Mak P w K mg base 1 "SexpEscape" (C_SexpEscape K) (sp_SexpEscape___init__ K) []) (m_SexpQuoted__take_in_escape : Met P w K mg base 4 (C_SexpQuoted K) "_take_in_escape" (sp_SexpQuoted__take_in_escape K) []) : Met P w K mg base 5 (C_SexpQuoted K) "take" (sp_SexpQuoted_take K) [] := by
  refine metD F nb.cl_SexpQuoted nb.me_SexpQuoted_take sc_SexpQuoted_take (fun _ _ _ _ _ _ us hl => match us, hl with | [_, _], _ => rfl) len2 (fun cdv A outer s H vs Q E hr h => ⟨_, (pss_cons (ps_if (pt_cmpR op_notN (pe_fld (pv 0) rfl) pe_non (nomark _))
    (pss_one (ps_ret (pe_mt m_SexpQuoted__take_in_escape hr (by decide) (pv 0) (pa_cons (pv 1) pa_nil))))
    pss_nil)
    (pss_cons (ps_if (pt_cmpR op_eq (pv 1) (pe_gc rfl nb.g_QUOTE) (nomark _))
    (pss_cons (ps_fld (pv 0) pe_bl rfl)
    (pss_one (ps_ret pe_bl)))
    pss_nil)
    (pss_cons (ps_if (pt_cmpR op_eq (pv 1) (pe_gc rfl nb.g_BACKSLASH) (nomark _))
    (pss_cons (ps_fld (pv 0) (pe_mk0 k_SexpEscape hr (by decide) rfl) rfl)
    (pss_one (ps_ret pe_bl)))
    pss_nil)
    (pss_cons (ps_expr (pe_bm PySem.F.plainAttrs_list PySem.F.slot_list_append PySem.F.type_list_append mt_append (pe_fld (pv 0) rfl) (pa_cons (pv 1) pa_nil)))
    (pss_one (ps_ret (pe_chain op_le op_le (pe_gc rfl nb.g_FIRST_PLAIN) (pv 1) (pe_gc rfl nb.g_LAST_PLAIN)))))))), ?_⟩)
  obtain ⟨_, _, rfl, a, l, e, s, b, rfl, rfl, hQ, ok, _, h⟩ := h
  obtain ⟨dx, hA, hL, hE, hN⟩ := id hQ
  obtain ⟨d, os, t⟩ := s
  cases t with
  | some t =>
    cases e with
    | none => exact hE.elim
    | some x =>
    have hA : H a = some (.ins (C_SexpQuoted K) dx (fs_SexpQuoted (.bl d) (.bl false) (.ref l) (.ref x))) := hA
    walk_at "rf"
    rw [if_pos (show (!decide (V.ref x = V.non)) = true by simp)]
    walk_at "rf"
    exact ⟨_, _, rfl, a, l, some x, _, b, rfl, rfl, hQ, ok, (fun z => by cases z), h⟩
  | none =>
    cases e with
    | some x => exact hE.elim
    | none =>
    have hA : H a = some (.ins (C_SexpQuoted K) dx (fs_SexpQuoted (.bl d) (.bl false) (.ref l) .non)) := hA
    have al : a ≠ l := by simpa [quOwn] using hN
    have er : quTake ⟨d, os, none⟩ b = if b = 34 then (true, ⟨true, os, none⟩) else if b = 92 then (true, ⟨d, os, some es0⟩) else (decide (32 ≤ b) && decide (b ≤ 126), ⟨d, os ++ [b], none⟩) := rfl
    rw [er] at h
    clear er
    walk_at "rf"
    rw [if_neg (show ¬ (!decide (V.non = V.non)) = true by decide)]
    walk_at "rf"
    refine r_ite (fun c => ?_) (fun c => ?_)
    · rw [if_pos c] at h
      walk_at "rf"
      walk_at "fs"
      intro H1 hA1 f1
      walk_at "rf"
      exact h none H1 (fun y hy => by cases hy) ⟨dx, hA1, f1.get (Ne.symm al) hL, trivial, hN⟩ (Ch.eb f1 (by simp [quOwn]) Ch.refl)
    rw [if_neg c] at h
    walk_at "rf"
    refine r_ite (fun c2 => ?_) (fun c2 => ?_)
    · rw [if_pos c2] at h
      walk_at "rf"
      refine d_esc fun x H1 nx hX s1 => ?_
      have ax : a ≠ x := Same.ne nx hA
      have lx : l ≠ x := Same.ne nx hL
      have hA1 := s1 _ _ hA
      have hL1 := s1 _ _ hL
      walk_at "rf"
      walk_at "fs"
      intro H2 hA2 f2
      walk_at "rf"
      refine h (some x) H2 (fun y hy => .inr (by cases hy; exact nx)) ⟨dx, hA2, f2.get (Ne.symm al) hL1, EsA.get hX (Ch.eb (o := [a]) f2 (by simp) Ch.refl) (by simp [Ne.symm ax]), by simp [quOwn, al, ax, lx]⟩ ?_
      exact Ch.eb f2 (by simp [quOwn]) (Ch.same s1 Ch.refl)
    rw [if_neg c2] at h
    walk_at "rf"
    refine ⟨tyL hL, ?_⟩
    walk_at "rf"
    refine r_appE hL (by rw [List.length_map]; exact ok.1) fun H1 hL1 f1 => ?_
    have hA1 := f1.get al hA
    have h := h none H1 (fun y hy => by cases hy) ⟨dx, hA1, by rw [hL1]; show _ = some (HO.lst ((os ++ [b]).map V.int)); rw [List.map_append]; rfl, trivial, hN⟩ (Ch.eb f1 (by simp [quOwn]) Ch.refl)
    walk_at "rf"
    cases c3 : decide (32 ≤ b) with
    | true =>
      rw [c3, Bool.true_and] at h
      walk_at "rf"
      exact h
    | false =>
      rw [c3, Bool.false_and] at h
      walk_at "rf"
      exact h
theorem ok_SexpQuoted_leaf (F : FunD K "leaf" "SexpQuoted.leaf" (defArgs s_SexpQuoted_leaf) (defBody s_SexpQuoted_leaf) (defScope s_SexpQuoted_leaf) [] [] (meAd "SexpQuoted" "leaf" K) fd) (nb : Nm w K mg) : Met P w K mg base 1 (C_SexpQuoted K) "leaf" (sp_SexpQuoted_leaf K) [] := by
  refine metD F nb.cl_SexpQuoted nb.me_SexpQuoted_leaf sc_SexpQuoted_leaf (fun _ _ _ _ _ _ us hl => match us, hl with | [_], _ => rfl) len1 (fun cdv A outer s H vs Q E hr h => ⟨_, (pss_one (ps_ret (pe_tupE (pa_cons pe_str (pa_cons (pe_callTy call_tuple_ofE (by rfl) nb.tuple (by decide +kernel) (pa_cons (pe_fld (pv 0) rfl) pa_nil)) pa_nil))))), ?_⟩)
  obtain ⟨_, rfl, a, l, e, s, rfl, ⟨dx, hA, hL, hE, hN⟩, h⟩ := h
  walk_at "rf"
  refine r_toT (SqL.of hL) fun t H1 nt g1 s1 => ?_
  walk_at "rf"
  refine ⟨by show 2 ≤ sizeLine; decide, fun q H2 nq g2 s2 => ?_⟩
  exact h (.ref q) H2 (.tup g2 (.cons (.str _) (.cons (tp_kd (s2 _ _ g1)) .nil))) (s1.trans s2)
end

/-! ### the atom in base64 -/



structure Bx where
  d : Bool
  s : B64
def bx0 : Bx := ⟨false, b640⟩
def BxA (K : Frg) (H : Hp) (a b l : Addr) (s : Bx) : Prop := ∃ dx, H a = some (.ins (C_SexpBase64 K) dx (fs_SexpBase64 (.bl s.d) (.bl false) (.ref b))) ∧ B64At K H b l s.s ∧ [a, b, l].Nodup
theorem B64At.get {K : Frg} {H H' : Hp} {a l : Addr} {s : B64} {o : List Addr} (h : B64At K H a l s) (c : Ch o H H') (na : a ∉ o) (nl : l ∉ o) : B64At K H' a l s := by
  obtain ⟨dx, h1, h2⟩ := h
  exact ⟨dx, c.get na h1, c.get nl h2⟩
theorem BxA.get {K : Frg} {H H' : Hp} {a b l : Addr} {s : Bx} {o : List Addr} (h : BxA K H a b l s) (c : Ch o H H') (n : ∀ x ∈ [a, b, l], x ∉ o) : BxA K H' a b l s := by
  obtain ⟨dx, h1, h2, h3⟩ := h
  exact ⟨dx, c.get (n _ (by simp)) h1, h2.get c (n _ (by simp)) (n _ (by simp)), h3⟩
theorem But.ch64 {K : Frg} {H H' : Hp} {a l : Addr} {s : B64} (h : But a l H H') (hU : B64At K H a l s) : Ch [a, l] H H' := fun x u hx hn => by
  obtain ⟨dx, h1, h2⟩ := hU
  by_cases e1 : x = a
  · subst e1
    obtain ⟨xs, rfl⟩ := hn (by simp)
    rw [h1] at hx
    cases hx
  by_cases e2 : x = l
  · subst e2
    obtain ⟨xs, rfl⟩ := hn (by simp)
    rw [h2] at hx
    cases hx
  exact h x u e1 e2 hx
def bxTake (s : Bx) (o : Int) : Bool × Bx :=
  if o ∈ wsp then (true, s) else if o = 124 then (decide ((s.s.dg + s.s.pd) % 4 = 0), { s with d := decide ((s.s.dg + s.s.pd) % 4 = 0) }) else ((take64 s.s o).1, { s with s := (take64 s.s o).2 })
def BxOk (s : Bx) : Prop := s.s.oc.length < sizeLine ∧ 0 ≤ s.s.dg
def sp_SexpBase64___init__ (K : Frg) : Sp := sp1 fun p H Q _ => ∃ a dx, p = .ref a ∧ H a = some (.ins (C_SexpBase64 K) dx []) ∧ ∀ b l H', H b = none → H l = none → BxA K H' a b l bx0 → Ch [a] H H' → Q .non H'
def sp_SexpBase64_take (K : Frg) : Sp := sp2 fun p o H Q _ => ∃ a b l s v, p = .ref a ∧ o = .int v ∧ BxA K H a b l s ∧ BxOk s ∧ ∀ H', BxA K H' a b l (bxTake s v).2 → Ch [a, b, l] H H' → Q (.bl (bxTake s v).1) H'
def sp_SexpBase64_leaf (K : Frg) : Sp := sp1 fun p H Q _ => ∃ a b l s, p = .ref a ∧ BxA K H a b l s ∧ ∀ p H', Tp H' p (.tuple [.str "bytes", kd s.s.oc]) → Same H H' → Q p H'
theorem d_b64 {K : Frg} {H : Hp} {R : Addr → Hp → Prop} {E : XK} (h : ∀ a l H', H a = none → H l = none → B64At K H' a l b640 → Same H H' → R a H') : ∀ x dx, H x = none → H dx = none → dx ≠ x → sp_Base64___init__ K (.ref x :: ([] ++ [])) (upd (upd H dx (.own x)) x (.ins (C_Base64 K) dx [])) (fun v H2 => v = .non ∧ R x H2) E := fun a dx ha hd hne =>
  ⟨_, rfl, a, dx, rfl, upd_same, fun q H' nq _ hN c => ⟨rfl, h a q H' ha (mk_free nq) hN (mk_same ha hd fun x u hx hn => by
    by_cases e : x = a
    · subst e
      obtain ⟨xs, rfl⟩ := hn (by simp)
      rw [upd_same] at hx
      cases hx
    · exact c x u e hx)⟩⟩
theorem d_bx {K : Frg} {H : Hp} {R : Addr → Hp → Prop} {E : XK} (h : ∀ a b l H', H a = none → H b = none → H l = none → BxA K H' a b l bx0 → Same H H' → R a H') : ∀ x dx, H x = none → H dx = none → dx ≠ x → sp_SexpBase64___init__ K (.ref x :: ([] ++ [])) (upd (upd H dx (.own x)) x (.ins (C_SexpBase64 K) dx [])) (fun v H2 => v = .non ∧ R x H2) E := fun a dx ha hd hne =>
  ⟨_, rfl, a, dx, rfl, upd_same, fun b l H' nb' nl hN c => ⟨rfl, h a b l H' ha (mk_free nb') (mk_free nl) hN (mk_same ha hd c)⟩⟩
section
variable {P : Program} {w : World} {K : PySem.W.Frag} {mg : Str → Option Value} {base : Heap} {f : Addr} {fd : FuncData}
theorem ok_SexpBase64___init__ (F : FunD K "__init__" "SexpBase64.__init__" (defArgs s_SexpBase64___init__) (defBody s_SexpBase64___init__) (defScope s_SexpBase64___init__) [] [] (meAd "SexpBase64" "__init__" K) fd) (nb : Nm w K mg) (k_Base64 : Mak P w K mg base 1 "Base64" (C_Base64 K) (sp_Base64___init__ K) []) : Mak P w K mg base 3 "SexpBase64" (C_SexpBase64 K) (sp_SexpBase64___init__ K) [] := by
  refine makD F nb.mk_SexpBase64 nb.g_SexpBase64 sc_SexpBase64___init__ (fun _ _ _ _ _ _ us hl => match us, hl with | [_], _ => rfl) len1 (fun cdv A outer s H vs Q E hr h => ⟨_, (pss_cons (ps_fld (pv 0) pe_bl rfl)
    (pss_cons (ps_fld (pv 0) pe_bl rfl)
    (pss_one (ps_fld (pv 0) (pe_mk0 k_Base64 hr (by decide) rfl) rfl)))), ?_⟩)
  obtain ⟨_, rfl, a, dx, rfl, hA, h⟩ := h
  walk_at "rf"
  refine r_fsetE hA nb.cl_SexpBase64 nb.na_SexpBase64_is_done (by decide) (in_SexpBase64_is_done) fun H1 hA1 f1 => ?_
  walk_at "rf"
  refine r_fsetE hA1 nb.cl_SexpBase64 nb.na_SexpBase64_can_end (by simp) (in_SexpBase64_can_end) fun H2 hA2 f2 => ?_
  have c3 : Ch [a] H H2 := by walk_at "ch"
  walk_at "rf"
  refine d_b64 fun b l H4 nb' nl hB s4 => ?_
  have ab : a ≠ b := Same.ne nb' hA2
  have al : a ≠ l := Same.ne nl hA2
  have bl := b64_ne hB
  walk_at "rf"
  refine r_fsetE (s4 _ _ hA2) nb.cl_SexpBase64 nb.na_SexpBase64__base64 (by simp) (in_SexpBase64__base64) fun H5 hA5 f5 => ?_
  have k5 : Ch [a] H4 H5 := by walk_at "ch"
  exact h b l H5 ((c3.fresh nb').resolve_left (by simp [Ne.symm ab])) ((c3.fresh nl).resolve_left (by simp [Ne.symm al])) ⟨dx, hA5, hB.get k5 (by simp [Ne.symm ab]) (by simp [Ne.symm al]), by simp [ab, al, Ne.symm bl]⟩ ((Ch.same s4 c3).trans k5)
theorem ok_SexpBase64_take (F : FunD K "take" "SexpBase64.take" (defArgs s_SexpBase64_take) (defBody s_SexpBase64_take) (defScope s_SexpBase64_take) [] [] (meAd "SexpBase64" "take" K) fd) (nb : Nm w K mg) (p_Base64_is_whole : Prp P w K mg base 1 (C_Base64 K) "is_whole" (sp_Base64_is_whole K)) (m_Base64_take : Met P w K mg base 2 (C_Base64 K) "take" (sp_Base64_take K) []) : Met P w K mg base 3 (C_SexpBase64 K) "take" (sp_SexpBase64_take K) [] := by
  obtain ⟨v_WHITESPACE, u_WHITESPACE, e_WHITESPACE, r_WHITESPACE, k_WHITESPACE⟩ := nb.g_WHITESPACE
  refine metD F nb.cl_SexpBase64 nb.me_SexpBase64_take sc_SexpBase64_take (fun _ _ _ _ _ _ us hl => match us, hl with | [_, _], _ => rfl) len2 (fun cdv A outer s H vs Q E hr h => ⟨_, (pss_cons (ps_if (pt_cmpR op_in_seq (pv 1) (pe_gc rfl ⟨u_WHITESPACE, e_WHITESPACE, r_WHITESPACE⟩) rfl)
    (pss_one (ps_ret pe_bl))
    pss_nil)
    (pss_cons (ps_if (pt_cmpR op_eq (pv 1) (pe_gc rfl nb.g_BAR) (nomark _))
    (pss_cons (ps_fld (pv 0) (pe_pr p_Base64_is_whole hr (by decide) (pe_fld (pv 0) rfl)) rfl)
    (pss_one (ps_ret (pe_fld (pv 0) rfl))))
    pss_nil)
    (pss_one (ps_ret (pe_mt m_Base64_take hr (by decide) (pe_fld (pv 0) rfl) (pa_cons (pv 1) pa_nil)))))), ?_⟩)
  obtain ⟨_, _, rfl, a, b, l, s, v, rfl, rfl, ⟨dx, hA, hB, hN⟩, ok, h⟩ := h
  have hN' := hN
  simp only [List.nodup_cons, List.mem_cons, List.not_mem_nil, or_false, not_or] at hN
  obtain ⟨⟨ab, al⟩, bl, _⟩ := hN
  obtain ⟨db, hb1, hb2⟩ := id hB
  obtain ⟨wm, ys, rfl, hM, hE⟩ := dp_tup (k_WHITESPACE H)
  have hE : ys = wsp.map V.int := dp_ints wsp hE
  subst hE
  walk_at "rf"
  refine ⟨wm, wsp.map V.int, rfl, .inr hM, rfl, rfl, ?_⟩
  rw [if_neg Bool.false_ne_true, in_ints]
  walk_at "rf"
  unfold bxTake at h
  refine r_ite (fun c => ?_) (fun c => ?_)
  · walk_at "rf"
    rw [if_pos c] at h
    exact h H ⟨dx, hA, hB, hN'⟩ Ch.refl
  rw [if_neg c] at h
  walk_at "rf"
  refine r_ite (fun c2 => ?_) (fun c2 => ?_)
  · rw [if_pos c2] at h
    walk_at "rf"
    refine ⟨_, rfl, b, l, s.s, rfl, hB, ?_⟩
    walk_at "rf"
    walk_at "fs"
    intro H1 hA1 f1
    have k1 : Ch [a] H H1 := by walk_at "ch"
    walk_at "rf"
    exact h H1 ⟨dx, hA1, hB.get k1 (by simp [Ne.symm ab]) (by simp [Ne.symm al]), hN'⟩ (k1.mono (by simp))
  rw [if_neg c2] at h
  walk_at "rf"
  refine ⟨_, _, rfl, b, l, s.s, v, rfl, rfl, hB, ok.1, ok.2, fun H1 hB1 k1 => ?_⟩
  have k1 := k1.ch64 hB
  exact h H1 ⟨dx, k1.get (by simp [ab, al]) hA, hB1, hN'⟩ (k1.mono (by intro x hx; simp at hx ⊢; rcases hx with e | e <;> simp [e]))
theorem ok_SexpBase64_leaf (F : FunD K "leaf" "SexpBase64.leaf" (defArgs s_SexpBase64_leaf) (defBody s_SexpBase64_leaf) (defScope s_SexpBase64_leaf) [] [] (meAd "SexpBase64" "leaf" K) fd) (nb : Nm w K mg) : Met P w K mg base 1 (C_SexpBase64 K) "leaf" (sp_SexpBase64_leaf K) [] := by
  refine metD F nb.cl_SexpBase64 nb.me_SexpBase64_leaf sc_SexpBase64_leaf (fun _ _ _ _ _ _ us hl => match us, hl with | [_], _ => rfl) len1 (fun cdv A outer s H vs Q E hr h => ⟨_, (pss_one (ps_ret (pe_tupE (pa_cons pe_str (pa_cons (pe_callTy call_tuple_ofE (by rfl) nb.tuple (by decide +kernel) (pa_cons (pe_fld (pe_fld (pv 0) rfl) rfl) pa_nil)) pa_nil))))), ?_⟩)
  obtain ⟨_, rfl, a, b, l, s, rfl, ⟨dx, hA, hB, hN⟩, h⟩ := h
  obtain ⟨db, hb1, hb2⟩ := id hB
  walk_at "rf"
  refine r_toT (SqL.of hb2) fun t H1 nt g1 s1 => ?_
  walk_at "rf"
  refine ⟨by show 2 ≤ sizeLine; decide, fun q H2 nq g2 s2 => ?_⟩
  exact h (.ref q) H2 (.tup g2 (.cons (.str _) (.cons (tp_kd (s2 _ _ g1)) .nil))) (s1.trans s2)
end

/-! ### the scanner of S-expressions -/









inductive Atm where
  | no
  | tok (os : List Int)
  | hex (s : Hx)
  | b64 (s : Bx)
  | quo (s : Qu)
  | cnt (s : Ct)
def aTake : Atm → Int → Bool × Atm
  | .no, _ => (false, .no)
  | .tok os, o => if goT o = true then (true, .tok (os ++ [o])) else (false, .tok os)
  | .hex s, o => ((hxTake s o).1, .hex (hxTake s o).2)
  | .b64 s, o => ((bxTake s o).1, .b64 (bxTake s o).2)
  | .quo s, o => ((quTake s o).1, .quo (quTake s o).2)
  | .cnt s, o => ((ctTake s o).1, .cnt (ctTake s o).2)
def aDone : Atm → Bool
  | .no => false
  | .tok _ => false
  | .hex s => s.d
  | .b64 s => s.d
  | .quo s => s.d
  | .cnt s => s.d
def aEnds : Atm → Bool
  | .tok _ => true
  | _ => false
def aNo : Atm → Bool
  | .no => true
  | _ => false
def aOs : Atm → List Int
  | .no => []
  | .tok os => os
  | .hex s => s.os
  | .b64 s => s.s.oc
  | .quo s => s.os
  | .cnt s => s.os
def aOk : Atm → Prop
  | .no => True
  | .tok os => os.length < sizeLine
  | .hex s => s.os.length < sizeLine
  | .b64 s => BxOk s
  | .quo s => QuOk s
  | .cnt s => CtOk s ∧ s.os.length < sizeLine
def atomOf (o : Int) : Option Atm :=
  if o = 34 then some (.quo qu0) else if o = 35 then some (.hex hx0) else if o = 124 then some (.b64 bx0) else if isDg o = true then some (.cnt (ctTake ct0 o).2) else if begT o = true then some (.tok [o]) else none
structure Sx where
  pl : Nat
  ov : Bool
  lv : List Lv
  t : Atm
def sx0 : Sx := ⟨0, false, [], .no⟩
def sxEnd (s : Sx) : Sx := { s with ov := s.lv.isEmpty }
def sxEndAtom (s : Sx) : List Ev × Sx := ([.lf "bytes" [kd (aOs s.t)]], sxEnd { s with t := .no })
def sxGo (s : Sx) (o : Int) : Bool × List Ev × Sx :=
  if aNo s.t = true then (false, [], s) else
  if (aTake s.t o).1 = true ∧ aDone (aTake s.t o).2 = false then (true, [], { s with t := (aTake s.t o).2 }) else ((aTake s.t o).1, sxEndAtom { s with t := (aTake s.t o).2 })
def sxClose (s : Sx) : Bool × List Ev × Sx := match s.lv with
  | [] => (false, [], s)
  | _ :: r => (true, [.cl], sxEnd { s with lv := r })
def sxMark (s : Sx) (o : Int) : Bool × List Ev × Sx :=
  if o ∈ wsp then (true, [], s) else if s.ov = true then (false, [], s) else
  if o = 40 then (if s.lv.length = 24 then (false, [.op false], s) else (true, [.op false], { s with lv := ⟨false, []⟩ :: s.lv })) else
  if o = 41 then sxClose s else match atomOf o with
    | none => (false, [], s)
    | some a => (true, [], { s with t := a })
def sxTake (s : Sx) (o : Int) : Bool × List Ev × Sx :=
  if (sxGo s o).1 = true then sxGo s o else ((sxMark (sxGo s o).2.2 o).1, (sxGo s o).2.1 ++ (sxMark (sxGo s o).2.2 o).2.1, (sxMark (sxGo s o).2.2 o).2.2)
def sxCalm (s : Sx) (o : Int) : Prop := aNo s.t = false → (aTake s.t o).1 = false → aEnds (aTake s.t o).2 = true
def SxOk (s : Sx) (o : Int) : Prop := aOk s.t ∧ s.lv.length ≤ 24 ∧ sxCalm s o ∧ (sxTake s o).1 = true
/-! where it stands -/
inductive AtA where
  | no
  | tok (a l : Addr)
  | hex (a l : Addr)
  | b64 (a b l : Addr)
  | quo (a l : Addr) (e : Option Addr)
  | cnt (a l : Addr)
def AtA.own : AtA → List Addr
  | .no => []
  | .tok a l => [a, l]
  | .hex a l => [a, l]
  | .b64 a b l => [a, b, l]
  | .quo a l e => quOwn a l e
  | .cnt a l => [a, l]
def AtA.v : AtA → V
  | .no => .non
  | .tok a _ => .ref a
  | .hex a _ => .ref a
  | .b64 a _ _ => .ref a
  | .quo a _ _ => .ref a
  | .cnt a _ => .ref a
/-- which atom stands where -/
inductive AtAt (K : Frg) (H : Hp) : AtA → Atm → Prop
  | no : AtAt K H .no .no
  | tok {a l : Addr} {s : List Int} (h : TkA K H a l s) : AtAt K H (.tok a l) (.tok s)
  | hex {a l : Addr} {s : Hx} (h : HxA K H a l s) : AtAt K H (.hex a l) (.hex s)
  | b64 {a b l : Addr} {s : Bx} (h : BxA K H a b l s) : AtAt K H (.b64 a b l) (.b64 s)
  | quo {a l : Addr} {e : Option Addr} {s : Qu} (h : QuA K H a l e s) : AtAt K H (.quo a l e) (.quo s)
  | cnt {a l : Addr} {s : Ct} (h : CtAt K H a l s) : AtAt K H (.cnt a l) (.cnt s)
theorem AtAt.get {K : Frg} {H H' : Hp} {o : List Addr} (k : Ch o H H') {A : AtA} {t : Atm} (h : AtAt K H A t) (n : ∀ x ∈ A.own, x ∉ o) : AtAt K H' A t := by
  cases h with
  | no => exact .no
  | tok h => exact .tok (h.get k (n _ (by simp [AtA.own])) (n _ (by simp [AtA.own])))
  | hex h => exact .hex (h.get k (n _ (by simp [AtA.own])) (n _ (by simp [AtA.own])))
  | b64 h => exact .b64 (h.get k n)
  | quo h => exact .quo (h.get k n)
  | cnt h => exact .cnt (CtAt.get h k (n _ (by simp [AtA.own])) (n _ (by simp [AtA.own])))
theorem AtAt.some {K : Frg} {H : Hp} {A : AtA} {t : Atm} (h : AtAt K H A t) : ∀ x ∈ A.own, ∃ u, H x = some u := by
  cases h with
  | no => exact fun x hx => by simp [AtA.own] at hx
  | tok h =>
    obtain ⟨dx, h1, h2, _⟩ := h
    exact fun x hx => by
      simp [AtA.own] at hx
      rcases hx with rfl | rfl
      · exact ⟨_, h1⟩
      · exact ⟨_, h2⟩
  | hex h =>
    obtain ⟨dx, h1, h2, _⟩ := h
    exact fun x hx => by
      simp [AtA.own] at hx
      rcases hx with rfl | rfl
      · exact ⟨_, h1⟩
      · exact ⟨_, h2⟩
  | b64 h =>
    obtain ⟨dx, h1, ⟨db, h2, h3⟩, _⟩ := h
    exact fun x hx => by
      simp [AtA.own] at hx
      rcases hx with rfl | rfl | rfl
      · exact ⟨_, h1⟩
      · exact ⟨_, h2⟩
      · exact ⟨_, h3⟩
  | @quo a l e s h =>
    obtain ⟨dx, h1, h2, h3, _⟩ := h
    intro x hx
    simp [AtA.own, quOwn] at hx
    rcases hx with rfl | rfl | hx
    · exact ⟨_, h1⟩
    · exact ⟨_, h2⟩
    · cases e with
      | none => cases hx
      | some y =>
        have hx : y = x := Option.some.inj hx
        cases hs : s.e with
        | none =>
          rw [hs] at h3
          exact h3.elim
        | some t =>
          rw [hs, hx] at h3
          obtain ⟨de, he⟩ := (show EsA K H x t from h3)
          exact ⟨_, he⟩
  | cnt h =>
    obtain ⟨dx, h1, h2, _⟩ := h
    exact fun x hx => by
      simp [AtA.own] at hx
      rcases hx with rfl | rfl
      · exact ⟨_, h1⟩
      · exact ⟨_, h2⟩
theorem AtAt.nd {K : Frg} {H : Hp} {A : AtA} {t : Atm} (h : AtAt K H A t) : A.own.Nodup := by
  cases h with
  | no => exact List.nodup_nil
  | tok h =>
    obtain ⟨dx, h1, h2, h3⟩ := h
    simp [AtA.own, h3]
  | hex h =>
    obtain ⟨dx, h1, h2, h3⟩ := h
    simp [AtA.own, h3]
  | b64 h =>
    obtain ⟨dx, h1, h2, h3⟩ := h
    exact h3
  | quo h =>
    obtain ⟨dx, h1, h2, h3, h4⟩ := h
    exact h4
  | cnt h =>
    obtain ⟨dx, h1, h2, h3⟩ := h
    simp [AtA.own, h3]
theorem AtAt.no_of {K : Frg} {H : Hp} {A : AtA} {t : Atm} (h : AtAt K H A t) (e : aNo t = true) : A = .no ∧ t = .no := by
  cases h with
  | no => exact ⟨rfl, rfl⟩
  | tok h => cases e
  | hex h => cases e
  | b64 h => cases e
  | quo h => cases e
  | cnt h => cases e
structure SxA where
  a : Addr
  n : Addr
  ll : Addr
  ds : List (Addr × Addr)
  t : AtA
def SxA.ns (A : SxA) : List Addr := nsOwn A.n A.ll A.ds
def SxA.own (A : SxA) : List Addr := A.a :: (A.ns ++ A.t.own)
structure SxAt (K : Frg) (H : Hp) (A : SxA) (s : Sx) : Prop where
  sc : ∃ dx, H A.a = some (.ins (C_SexpScanner K) dx (fs_SexpScanner (.int s.pl) (.bl s.ov) (.ref A.n) A.t.v))
  ns : NsAt K H A.n A.ll A.ds s.lv
  tk : AtAt K H A.t s.t
  nd : A.own.Nodup
theorem LvAt.some {H : Hp} : ∀ {ds : List (Addr × Addr)} {lv : List Lv}, LvAt H ds lv → ∀ x ∈ ds.map (·.2), ∃ u, H x = some u
  | [], [], _, x, hx => by simp at hx
  | d :: ds, l :: lv, h, x, hx => by
    rcases List.mem_cons.mp hx with e | hx
    · exact ⟨_, by rw [e]; exact h.2.1⟩
    · exact LvAt.some h.2.2 x hx
  | [], _ :: _, h, _, _ => h.elim
  | _ :: _, [], h, _, _ => h.elim
theorem NsAt.some {K : Frg} {H : Hp} {n ll : Addr} {ds : List (Addr × Addr)} {lv : List Lv} (h : NsAt K H n ll ds lv) : ∀ x ∈ nsOwn n ll ds, ∃ u, H x = some u := fun x hx => by
  obtain ⟨⟨dx, h1⟩, h2, h3, _⟩ := h
  rcases List.mem_cons.mp hx with e | hx
  · exact ⟨_, by rw [e]; exact h1⟩
  rcases List.mem_cons.mp hx with e | hx
  · exact ⟨_, by rw [e]; exact h2⟩
  · exact h3.some x hx
theorem SxAt.get {K : Frg} {H H' : Hp} {o : List Addr} {A : SxA} {s : Sx} (h : SxAt K H A s) (k : Ch o H H') (n : ∀ x ∈ A.own, x ∉ o) : SxAt K H' A s := by
  obtain ⟨⟨dx, h1⟩, h2, h3, h4⟩ := h
  exact ⟨⟨dx, k.get (n _ (List.mem_cons_self ..)) h1⟩, h2.get k fun x hx => n x (List.mem_cons_of_mem _ (List.mem_append_left _ hx)), h3.get k fun x hx => n x (List.mem_cons_of_mem _ (List.mem_append_right _ hx)), h4⟩
theorem SxAt.some {K : Frg} {H : Hp} {A : SxA} {s : Sx} (h : SxAt K H A s) : ∀ x ∈ A.own, ∃ u, H x = some u := fun x hx => by
  rcases List.mem_cons.mp hx with e | hx
  · exact ⟨_, by rw [e]; exact h.sc.choose_spec⟩
  rcases List.mem_append.mp hx with hx | hx
  · exact h.ns.some x hx
  · exact h.tk.some x hx
theorem sxa_nd {A : SxA} (h : A.own.Nodup) : A.a ∉ A.ns ∧ A.a ∉ A.t.own ∧ (∀ x ∈ A.ns, x ∉ A.t.own) ∧ (∀ x ∈ A.t.own, x ∉ A.ns) ∧ A.ns.Nodup := by
  unfold SxA.own at h
  rw [List.nodup_cons, List.nodup_append] at h
  obtain ⟨h1, h2, h3, h4⟩ := h
  exact ⟨fun q => h1 (List.mem_append_left _ q), fun q => h1 (List.mem_append_right _ q), fun x hx q => h4 x hx x q rfl, fun x hx q => h4 x q x hx rfl, h2⟩
theorem sxa_mk {A : SxA} (h1 : A.a ∉ A.ns) (h2 : A.a ∉ A.t.own) (h3 : ∀ x ∈ A.ns, x ∉ A.t.own) (h4 : A.ns.Nodup) (h5 : A.t.own.Nodup) : A.own.Nodup := by
  unfold SxA.own
  rw [List.nodup_cons, List.nodup_append]
  refine ⟨fun z => ?_, h4, h5, fun x hx y hy e => h3 x hx (by rw [e]; exact hy)⟩
  rcases List.mem_append.mp z with z | z
  · exact h1 z
  · exact h2 z
def EvL (H : Hp) (p : Addr) (es : List Ev) : Prop := ∃ vs, H p = some (.lst vs) ∧ TpAll H vs (evD es)
theorem ev_add {H H' : Hp} {p T : Addr} {es : List Ev} {ev : Ev} {vs : List V} (tp : TpAll H vs (evD es)) (hT : Tp H (.ref T) ev.dat) (hp : H' p = some (.lst (vs ++ [.ref T]))) (tk : Tk H H') : EvL H' p (es ++ [ev]) :=
  ⟨_, hp, by rw [evD_app]; exact tpAll_app (TpAll.tk tk _ _ tp) (.cons (Tp.tk tk _ _ hT) .nil)⟩
theorem EvL.get {H H' : Hp} {o : List Addr} {p : Addr} {es : List Ev} (h : EvL H p es) (k : Ch o H H') (n : p ∉ o) : EvL H' p es := by
  obtain ⟨vs, h1, h2⟩ := h
  exact ⟨vs, k.get n h1, TpAll.tk k.tk _ _ h2⟩
theorem evl_len {H : Hp} {vs : List V} {es : List Ev} (h : TpAll H vs (evD es)) : vs.length = es.length := by
  have := tpAll_len h
  unfold evD at this
  rw [List.length_map] at this
  exact this
/-- what a step of a method with events wishes -/
def SxEv (K : Frg) (H : Hp) (A : SxA) (p : Addr) (es : List Ev) (r : List Ev × Sx) (R : Hp → Prop) : Prop := ∀ A' H', A'.a = A.a → (∀ x ∈ A'.own, x ∈ A.own ∨ H x = none) → SxAt K H' A' r.2 → EvL H' p (es ++ r.1) → Ch (p :: A.own) H H' → R H'
def sxLate (s : Sx) : List Ev := if aNo s.t = true then [] else (sxEndAtom s).1
theorem nest_fresh {n ll : Addr} {d : Addr × Addr} {ds : List (Addr × Addr)} {H : Hp} (nd : H d.2 = none) (P : Addr → Prop) (hp : ∀ x ∈ nsOwn n ll ds, P x) (hq : H d.2 = none → P d.2) : ∀ x ∈ nsOwn n ll (d :: ds), P x := fun x hx => by
  unfold nsOwn at hx hp
  rw [List.map_cons] at hx
  rcases List.mem_cons.mp hx with e | hx
  · exact hp x (by rw [e]; simp)
  rcases List.mem_cons.mp hx with e | hx
  · exact hp x (by rw [e]; simp)
  rcases List.mem_cons.mp hx with e | hx
  · rw [e]; exact hq nd
  · exact hp x (List.mem_cons_of_mem _ (List.mem_cons_of_mem _ hx))
theorem nest_sub {n ll : Addr} {d : Addr × Addr} {ds : List (Addr × Addr)} : ∀ x ∈ nsOwn n ll ds, x ∈ nsOwn n ll (d :: ds) := fun x hx => by
  unfold nsOwn at hx ⊢
  rw [List.map_cons]
  rcases List.mem_cons.mp hx with e | hx
  · rw [e]; simp
  rcases List.mem_cons.mp hx with e | hx
  · rw [e]; simp
  · exact List.mem_cons_of_mem _ (List.mem_cons_of_mem _ (List.mem_cons_of_mem _ hx))
theorem lv_cons {H : Hp} {ds : List (Addr × Addr)} {l : Lv} {lv : List Lv} (h : LvAt H ds (l :: lv)) : ∃ d ds', ds = d :: ds' := by
  cases ds with
  | nil => exact h.elim
  | cons d ds => exact ⟨d, ds, rfl⟩
section
variable {P : Program} {w : World} {K : PySem.W.Frag} {mg : Str → Option Value} {base : Heap} {f : Addr} {fd : FuncData}
/-- the fields that all atoms have -/
theorem at_fld {H : Hp} {A : AtA} {t : Atm} (nb : Nm w K mg) (h : AtAt K H A t) (e : aNo t = false) : ∃ x C dt fs, A.v = .ref x ∧ x ∈ A.own ∧ H x = some (.ins C dt fs) ∧ Cls K C ∧ NoAttr K C "is_done" ∧ fs.lookup ("is_done" : Str) = some (V.bl (aDone t)) ∧ NoAttr K C "can_end" ∧ fs.lookup ("can_end" : Str) = some (V.bl (aEnds t)) := by
  cases h with
  | no => cases e
  | tok h =>
    obtain ⟨dx, h1, _⟩ := h
    exact ⟨_, _, _, _, rfl, by simp [AtA.own], h1, nb.cl_SexpToken, nb.na_SexpToken_is_done, lk_SexpToken_is_done, nb.na_SexpToken_can_end, lk_SexpToken_can_end⟩
  | hex h =>
    obtain ⟨dx, h1, _⟩ := h
    exact ⟨_, _, _, _, rfl, by simp [AtA.own], h1, nb.cl_SexpHex, nb.na_SexpHex_is_done, lk_SexpHex_is_done, nb.na_SexpHex_can_end, lk_SexpHex_can_end⟩
  | b64 h =>
    obtain ⟨dx, h1, _⟩ := h
    exact ⟨_, _, _, _, rfl, by simp [AtA.own], h1, nb.cl_SexpBase64, nb.na_SexpBase64_is_done, lk_SexpBase64_is_done, nb.na_SexpBase64_can_end, lk_SexpBase64_can_end⟩
  | quo h =>
    obtain ⟨dx, h1, _⟩ := h
    exact ⟨_, _, _, _, rfl, by simp [AtA.own, quOwn], h1, nb.cl_SexpQuoted, nb.na_SexpQuoted_is_done, lk_SexpQuoted_is_done, nb.na_SexpQuoted_can_end, lk_SexpQuoted_can_end⟩
  | cnt h =>
    obtain ⟨dx, h1, _⟩ := h
    exact ⟨_, _, _, _, rfl, by simp [AtA.own], h1, nb.cl_Counted, nb.na_Counted_is_done, lk_Counted_is_done, nb.na_Counted_can_end, lk_Counted_can_end⟩
end

def sp__atom_of (K : Frg) : Sp := sp1 fun o H Q _ => ∃ b a, o = .int b ∧ atomOf b = some a ∧ ∀ A H', (∀ x ∈ A.own, H x = none) → AtAt K H' A a → Same H H' → Q A.v H'
def sp_SexpScanner___init__ (K : Frg) : Sp := sp1 fun p H Q _ => ∃ a dx, p = .ref a ∧ H a = some (.ins (C_SexpScanner K) dx []) ∧ ∀ A H', A.a = a → (∀ x ∈ A.own, x = a ∨ H x = none) → SxAt K H' A sx0 → Ch [a] H H' → Q .non H'
def sp_SexpScanner__end_value (K : Frg) : Sp := sp1 fun p H Q _ => ∃ A s, p = .ref A.a ∧ SxAt K H A s ∧ s.lv.length ≤ 1000 ∧ ∀ H', SxAt K H' A (sxEnd s) → Ch [A.a] H H' → Q .non H'
def sp_SexpScanner__close (K : Frg) : Sp := sp2 fun p e H Q _ => ∃ A s q es, p = .ref A.a ∧ e = .ref q ∧ SxAt K H A s ∧ s.lv.length ≤ 24 ∧ s.lv ≠ [] ∧ EvL H q es ∧ es.length ≤ 100 ∧ q ∉ A.own ∧ SxEv K H A q es (sxClose s).2 (Q (.bl true))
def sp_SexpScanner__end_atom (K : Frg) : Sp := sp2 fun p e H Q _ => ∃ A s q es, p = .ref A.a ∧ e = .ref q ∧ SxAt K H A s ∧ s.lv.length ≤ 24 ∧ aNo s.t = false ∧ EvL H q es ∧ es.length ≤ 100 ∧ q ∉ A.own ∧ SxEv K H A q es (sxEndAtom s) (Q .non)
def sp_SexpScanner__go_on (K : Frg) : Sp := sp3 fun p o e H Q _ => ∃ A s b q es, p = .ref A.a ∧ o = .int b ∧ e = .ref q ∧ SxAt K H A s ∧ aOk s.t ∧ s.lv.length ≤ 24 ∧ sxCalm s b ∧ EvL H q es ∧ es.length ≤ 50 ∧ q ∉ A.own ∧ SxEv K H A q es (sxGo s b).2 (Q (.bl (sxGo s b).1))
def sp_SexpScanner__take_mark (K : Frg) : Sp := sp3 fun p o e H Q _ => ∃ A s b q es, p = .ref A.a ∧ o = .int b ∧ e = .ref q ∧ SxAt K H A s ∧ s.lv.length ≤ 24 ∧ aNo s.t = true ∧ (sxMark s b).1 = true ∧ EvL H q es ∧ es.length ≤ 100 ∧ q ∉ A.own ∧ SxEv K H A q es (sxMark s b).2 (Q (.bl true))
def sp_SexpScanner_step (K : Frg) : Sp := sp2 fun p o H Q _ => ∃ A s b, p = .ref A.a ∧ o = .int b ∧ SxAt K H A s ∧ SxOk s b ∧
  ∀ A' q H', A'.a = A.a → (∀ x ∈ A'.own, x ∈ A.own ∨ H x = none) → SxAt K H' A' { (sxTake s b).2.2 with pl := (sxTake s b).2.2.pl + 1 } → EvL H' q (sxTake s b).2.1 → H q = none → q ∉ A'.own → Ch A.own H H' → Q (.ref q) H'
def sp_SexpScanner_end (K : Frg) : Sp := sp1 fun p H Q _ => ∃ A s, p = .ref A.a ∧ SxAt K H A s ∧ ((aNo s.t = true ∧ s.ov = true) ∨ (aEnds s.t = true ∧ s.lv = [])) ∧ ∀ q H', H q = none → EvL H' q (sxLate s) → q ∉ A.own → Ch A.own H H' → Q (.ref q) H'
section
variable {P : Program} {w : World} {K : PySem.W.Frag} {mg : Str → Option Value} {base : Heap} {f : Addr} {fd : FuncData}
theorem ok_SexpScanner__end_value (F : FunD K "_end_value" "SexpScanner._end_value" (defArgs s_SexpScanner__end_value) (defBody s_SexpScanner__end_value) (defScope s_SexpScanner__end_value) [] [] (meAd "SexpScanner" "_end_value" K) fd) (nb : Nm w K mg) (m_Nest_inner : Met P w K mg base 1 (C_Nest K) "inner" (sp_Nest_inner K) []) : Met P w K mg base 2 (C_SexpScanner K) "_end_value" (sp_SexpScanner__end_value K) [] := by
  refine metD F nb.cl_SexpScanner nb.me_SexpScanner__end_value sc_SexpScanner__end_value (fun _ _ _ _ _ _ us hl => match us, hl with | [_], _ => rfl) len1 (fun cdv A outer s H vs Q E hr h => ⟨_, (pss_one (ps_fld (pv 0) (pe_cmpR op_isN (pe_mt0 m_Nest_inner hr (by decide) (pe_fld (pv 0) rfl)) pe_non (nomark _)) rfl)), ?_⟩)
  obtain ⟨_, rfl, A, s, rfl, ⟨⟨dx, hA⟩, hN, hT, nd⟩, hl, h⟩ := h
  obtain ⟨n1, n2, n3, n4, n5⟩ := sxa_nd nd
  obtain ⟨⟨dn, hn⟩, hL, hV, hD⟩ := id hN
  walk_at "rf"
  refine ⟨_, rfl, A.n, A.ll, A.ds, s.lv, rfl, hN, hl, ?_⟩
  walk_at "rf"
  have e : decide (kindV s.lv = V.non) = s.lv.isEmpty := by
    cases s.lv with
    | nil => rfl
    | cons l r => exact decide_eq_false fun z => by cases z
  rw [e]
  walk_at "fs"
  intro H1 hA1 f1
  have k1 : Ch [A.a] H H1 := by walk_at "ch"
  exact h H1 ⟨⟨dx, hA1⟩, hN.get k1 (fun x hx q => n1 (by rw [List.mem_singleton.mp q] at hx; exact hx)), hT.get k1 (fun x hx q => n2 (by rw [List.mem_singleton.mp q] at hx; exact hx)), nd⟩ k1
theorem ok_SexpScanner__close (F : FunD K "_close" "SexpScanner._close" (defArgs s_SexpScanner__close) (defBody s_SexpScanner__close) (defScope s_SexpScanner__close) [] [] (meAd "SexpScanner" "_close" K) fd) (nb : Nm w K mg) (m_Nest_inner : Met P w K mg base 1 (C_Nest K) "inner" (sp_Nest_inner K) []) (m_Nest_shrink : Met P w K mg base 1 (C_Nest K) "shrink" (sp_Nest_shrink K) []) (m_SexpScanner__end_value : Met P w K mg base 2 (C_SexpScanner K) "_end_value" (sp_SexpScanner__end_value K) []) : Met P w K mg base 3 (C_SexpScanner K) "_close" (sp_SexpScanner__close K) [] := by
  refine metD F nb.cl_SexpScanner nb.me_SexpScanner__close sc_SexpScanner__close (fun _ _ _ _ _ _ us hl => match us, hl with | [_, _], _ => rfl) len2 (fun cdv A outer s H vs Q E hr h => ⟨_, (pss_cons (ps_if (pt_cmpR op_isN (pe_mt0 m_Nest_inner hr (by decide) (pe_fld (pv 0) rfl)) pe_non (nomark _))
    (pss_one (ps_ret pe_bl))
    pss_nil)
    (pss_cons (ps_expr (pe_mt0 m_Nest_shrink hr (by decide) (pe_fld (pv 0) rfl)))
    (pss_cons (ps_expr (pe_bm PySem.F.plainAttrs_list PySem.F.slot_list_append PySem.F.type_list_append mt_append (pv 1) (pa_cons (pe_tupE (pa_cons pe_str pa_nil)) pa_nil)))
    (pss_cons (ps_expr (pe_mt0 m_SexpScanner__end_value hr (by decide) (pv 0)))
    (pss_one (ps_ret pe_bl)))))), ?_⟩)
  obtain ⟨_, _, rfl, A, s, q, es, rfl, rfl, hS, hl, hlv0, hE, hes, qn, h⟩ := h
  obtain ⟨⟨dx, hA⟩, hN, hT, nd⟩ := id hS
  obtain ⟨vs, hq, tp⟩ := id hE
  obtain ⟨n1, n2, n3, n4, n5⟩ := sxa_nd nd
  obtain ⟨⟨dn, hn⟩, hL, hV, hD⟩ := id hN
  unfold sxClose at h
  have qa : q ≠ A.a := fun e => qn (by rw [e]; exact List.mem_cons_self ..)
  have qns : q ∉ A.ns := fun e => qn (List.mem_cons_of_mem _ (List.mem_append_left _ e))
  walk_at "rf"
  refine ⟨_, rfl, A.n, A.ll, A.ds, s.lv, rfl, hN, by omega, ?_⟩
  cases hlv : s.lv with
  | nil => exact absurd hlv hlv0
  | cons l r =>
    rw [hlv] at h hV
    obtain ⟨d, ds, ed⟩ := lv_cons hV
    rw [show kindV (l :: r) = .str (kindOf_ l.m) from rfl]
    walk_at "rf"
    refine r_iteN (fun e => by cases e) ?_
    have hNd : NsAt K H A.n A.ll (d :: ds) (l :: r) := by rw [← ed, ← hlv]; exact hN
    walk_at "rf"
    refine ⟨_, rfl, A.n, A.ll, d, ds, l, r, rfl, hNd, fun H1 hN1 k1 => ?_⟩
    rw [← ed] at k1
    have hA1 := k1.get n1 hA
    have hq1 := k1.get qns hq
    have hT1 := hT.get k1 n4
    walk_at "rf"
    refine ⟨tyL hq1, ?_⟩
    walk_at "rf"
    refine ⟨by show 1 ≤ sizeLine; decide, fun T H2 nT gT s2 => ?_⟩
    walk_at "rf"
    refine r_appE (s2 _ _ hq1) (by rw [evl_len tp]; exact small1000 (by omega)) fun H3 hq3 f3 => ?_
    have k13 : Ch [q] H1 H3 := by walk_at "ch"
    have e3 : EvL H3 q (es ++ [.cl]) := ev_add (TpAll.tk (k1.tk.trans (Same.tk s2)) _ _ tp) (.tup gT (.cons (.str _) .nil)) hq3 (fun b xs h => (f3.1 b fun q => by rw [q] at h; exact f3.2 xs h).trans h)
    have sub : ∀ x ∈ nsOwn A.n A.ll ds, x ∈ A.ns := fun x hx => by
      show x ∈ nsOwn A.n A.ll A.ds
      rw [ed]
      exact nest_sub x hx
    have hN3 := hN1.get k13 fun x hx z => qns (by rw [← List.mem_singleton.mp z]; exact sub x hx)
    have hT3 := hT1.get k13 fun x hx z => qn (by rw [← List.mem_singleton.mp z]; exact List.mem_cons_of_mem _ (List.mem_append_right _ hx))
    have hA3 := k13.get (by simp [Ne.symm qa]) hA1
    have nd3 : ({ A with ds := ds } : SxA).own.Nodup := by
      refine nd.sublist ?_
      unfold SxA.own SxA.ns
      rw [ed]
      exact List.Sublist.cons₂ _ (List.Sublist.append (List.Sublist.cons₂ _ (List.Sublist.cons₂ _ (List.sublist_cons_self ..))) (List.Sublist.refl _))
    walk_at "rf"
    refine ⟨_, rfl, { A with ds := ds }, { s with lv := r }, rfl, ⟨⟨dx, hA3⟩, hN3, hT3, nd3⟩, by show r.length ≤ 1000; rw [hlv] at hl; simp at hl; omega, fun H4 hS4 k4 => ?_⟩
    walk_at "rf"
    refine h { A with ds := ds } H4 rfl (fun x hx => .inl ?_) hS4 (e3.get k4 (by simp [qa])) ?_
    · rcases List.mem_cons.mp hx with e | hx
      · rw [e]; exact List.mem_cons_self ..
      rcases List.mem_append.mp hx with hx | hx
      · exact List.mem_cons_of_mem _ (List.mem_append_left _ (sub x hx))
      · exact List.mem_cons_of_mem _ (List.mem_append_right _ hx)
    · exact k4.ch (by simp [SxA.own]) (k13.ch (by simp) (Ch.mono k1 fun x hx => List.mem_cons_of_mem _ (List.mem_cons_of_mem _ (List.mem_append_left _ hx))))
theorem ok_SexpScanner__end_atom (F : FunD K "_end_atom" "SexpScanner._end_atom" (defArgs s_SexpScanner__end_atom) (defBody s_SexpScanner__end_atom) (defScope s_SexpScanner__end_atom) [] [] (meAd "SexpScanner" "_end_atom" K) fd) (nb : Nm w K mg) (m_Counted_leaf : Met P w K mg base 1 (C_Counted K) "leaf" (sp_Counted_leaf K) []) (m_SexpToken_leaf : Met P w K mg base 1 (C_SexpToken K) "leaf" (sp_SexpToken_leaf K) []) (m_SexpHex_leaf : Met P w K mg base 1 (C_SexpHex K) "leaf" (sp_SexpHex_leaf K) []) (m_SexpBase64_leaf : Met P w K mg base 1 (C_SexpBase64 K) "leaf" (sp_SexpBase64_leaf K) []) (m_SexpQuoted_leaf : Met P w K mg base 1 (C_SexpQuoted K) "leaf" (sp_SexpQuoted_leaf K) []) (m_SexpScanner__end_value : Met P w K mg base 2 (C_SexpScanner K) "_end_value" (sp_SexpScanner__end_value K) []) : Met P w K mg base 3 (C_SexpScanner K) "_end_atom" (sp_SexpScanner__end_atom K) [] := by
  refine metD F nb.cl_SexpScanner nb.me_SexpScanner__end_atom sc_SexpScanner__end_atom (fun _ _ _ _ _ _ us hl => match us, hl with | [_, _], _ => rfl) len2 (fun cdv A outer s H vs Q E hr h => ⟨_, (pss_cut (ps_expr (pe_bm PySem.F.plainAttrs_list PySem.F.slot_list_append PySem.F.type_list_append mt_append (pv 1) (pa_cons (pe_tupE (pa_cons pe_str (pa_cons (pe_alt (pe_mt0 m_Counted_leaf hr (by decide) (pe_fld (pv 0) rfl)) (pe_alt (pe_mt0 m_SexpToken_leaf hr (by decide) (pe_fld (pv 0) rfl)) (pe_alt (pe_mt0 m_SexpHex_leaf hr (by decide) (pe_fld (pv 0) rfl)) (pe_alt (pe_mt0 m_SexpBase64_leaf hr (by decide) (pe_fld (pv 0) rfl)) (pe_mt0 m_SexpQuoted_leaf hr (by decide) (pe_fld (pv 0) rfl)))))) pa_nil))) pa_nil)))
    (pss_cons (ps_fld (pv 0) pe_non rfl)
    (pss_one (ps_expr (pe_mt0 m_SexpScanner__end_value hr (by decide) (pv 0)))))), ?_⟩)
  obtain ⟨_, _, rfl, A, s, q, es, rfl, rfl, hS, hl, hno, hE, hes, qn, h⟩ := h
  obtain ⟨⟨dx, hA⟩, hN, hT, nd⟩ := id hS
  obtain ⟨vs, hq, tp⟩ := id hE
  obtain ⟨n1, n2, n3, n4, n5⟩ := sxa_nd nd
  have qa : q ≠ A.a := fun e => qn (by rw [e]; exact List.mem_cons_self ..)
  have qns : q ∉ A.ns := fun e => qn (List.mem_cons_of_mem _ (List.mem_append_left _ e))
  have nd0 : ({ A with t := .no } : SxA).own.Nodup := sxa_mk n1 (by simp [AtA.own]) (fun x _ => by simp [AtA.own]) n5 (by simp [AtA.own])
  have sub0 : ∀ x ∈ ({ A with t := .no } : SxA).own, x ∈ A.own := fun x hx => by
    rcases List.mem_cons.mp hx with e | hx
    · rw [e]; exact List.mem_cons_self ..
    rcases List.mem_append.mp hx with hx | hx
    · exact List.mem_cons_of_mem _ (List.mem_append_left _ hx)
    · simp [AtA.own] at hx
  walk_at "rg"
  refine r_cut (fun σ H1 => σ = [some (.ref A.a), some (.ref q)] ∧ Ch [q] H H1 ∧ EvL H1 q (es ++ (sxEndAtom s).1)) ?_ ?_
  · have fin : ∀ (p : V) (H1 : Hp), Tp H1 p (.tuple [.str "bytes", kd (aOs s.t)]) → Same H H1 → 2 ≤ sizeLine ∧ ∀ T H2, H1 T = none → H2 T = some (.tup [.str "leaf", p]) → Same H1 H2 → rAppend (.ref q) [.ref T] H2 (fun _ H' => [some (V.ref A.a), some (.ref q)] = [some (.ref A.a), some (.ref q)] ∧ Ch [q] H H' ∧ EvL H' q (es ++ (sxEndAtom s).1)) := fun p H1 tlf s1 =>
      ⟨by decide, fun T H2 nT gT s2 => r_appE (s2 _ _ (s1 _ _ hq)) (by rw [evl_len tp]; exact small1000 (by omega)) fun H3 hq3 f3 => ⟨rfl, Ch.eb f3 (by simp) (Ch.same (s1.trans s2) Ch.refl), ev_add (TpAll.tk (Same.tk (s1.trans s2)) _ _ tp) (.tup gT (.cons (.str _) (.cons (Tp.tk (Same.tk s2) _ _ tlf) .nil))) hq3 (fun b xs h => (f3.1 b fun q => by rw [q] at h; exact f3.2 xs h).trans h)⟩⟩
    walk_at "rf"
    refine ⟨tyL hq, ?_⟩
    walk_at "rf"
    generalize hst : s.t = t at hT hno fin
    generalize hat : A.t = B at hT hA
    cases hT with
    | no => cases hno
    | tok hk =>
      obtain ⟨dk, hka, _⟩ := id hk
      refine .inr (.inl ?_)
      have hA : H A.a = some (.ins (C_SexpScanner K) dx (fs_SexpScanner (.int s.pl) (.bl s.ov) (.ref A.n) (.ref _))) := hA
      walk_at "rf"
      exact ⟨_, rfl, _, _, _, rfl, hk, fun p H1 tp s1 => fin p H1 tp s1⟩
    | hex hk =>
      obtain ⟨dk, hka, _⟩ := id hk
      refine .inr (.inr (.inl ?_))
      have hA : H A.a = some (.ins (C_SexpScanner K) dx (fs_SexpScanner (.int s.pl) (.bl s.ov) (.ref A.n) (.ref _))) := hA
      walk_at "rf"
      exact ⟨_, rfl, _, _, _, rfl, hk, fun p H1 tp s1 => fin p H1 tp s1⟩
    | b64 hk =>
      obtain ⟨dk, hka, _⟩ := id hk
      refine .inr (.inr (.inr (.inl ?_)))
      have hA : H A.a = some (.ins (C_SexpScanner K) dx (fs_SexpScanner (.int s.pl) (.bl s.ov) (.ref A.n) (.ref _))) := hA
      walk_at "rf"
      exact ⟨_, rfl, _, _, _, _, rfl, hk, fun p H1 tp s1 => fin p H1 tp s1⟩
    | quo hk =>
      obtain ⟨dk, hka, _⟩ := id hk
      refine .inr (.inr (.inr (.inr ?_)))
      have hA : H A.a = some (.ins (C_SexpScanner K) dx (fs_SexpScanner (.int s.pl) (.bl s.ov) (.ref A.n) (.ref _))) := hA
      walk_at "rf"
      exact ⟨_, rfl, _, _, _, _, rfl, hk, fun p H1 tp s1 => fin p H1 tp s1⟩
    | cnt hk =>
      obtain ⟨dk, hka, _⟩ := id hk
      refine .inl ?_
      have hA : H A.a = some (.ins (C_SexpScanner K) dx (fs_SexpScanner (.int s.pl) (.bl s.ov) (.ref A.n) (.ref _))) := hA
      walk_at "rf"
      exact ⟨_, rfl, _, _, _, rfl, hk, fun p H1 tp s1 => fin p H1 tp s1⟩
  · rintro σ H1 ⟨rfl, k1, e1⟩
    have hA1 := k1.get (x := A.a) (by simp [Ne.symm qa]) hA
    walk_at "rf"
    walk_at "fs"
    intro H2 hA2 f2
    have k2 : Ch [A.a] H1 H2 := by walk_at "ch"
    have hN2 := (hN.get k1 fun x hx z => qns (by rw [← List.mem_singleton.mp z]; exact hx)).get k2 fun x hx z => n1 (by rw [← List.mem_singleton.mp z]; exact hx)
    walk_at "rf"
    refine ⟨_, rfl, { A with t := .no }, { s with t := .no }, rfl, ⟨⟨dx, hA2⟩, hN2, .no, nd0⟩, by show s.lv.length ≤ 1000; omega, fun H3 hS3 k3 => ?_⟩
    exact h { A with t := .no } H3 rfl (fun x hx => .inl (sub0 x hx)) hS3 ((e1.get k2 (by simp [qa])).get k3 (by simp [qa])) (k3.ch (by simp [SxA.own]) (k2.ch (by simp [SxA.own]) (k1.mono (by simp))))
end

section
variable {P : Program} {w : World} {K : PySem.W.Frag} {mg : Str → Option Value} {base : Heap} {f : Addr} {fd : FuncData}
theorem d_tok {H : Hp} {R : Addr → Hp → Prop} {E : XK} (h : ∀ a l H', H a = none → H l = none → TkA K H' a l [] → Same H H' → R a H') : ∀ x dx, H x = none → H dx = none → dx ≠ x → sp_SexpToken___init__ K (.ref x :: ([] ++ [])) (upd (upd H dx (.own x)) x (.ins (C_SexpToken K) dx [])) (fun v H2 => v = .non ∧ R x H2) E := fun a dx ha hd hne =>
  ⟨_, rfl, a, dx, rfl, upd_same, fun q H' nq hN c => ⟨rfl, h a q H' ha (mk_free nq) hN (mk_same ha hd c)⟩⟩
theorem d_hex {H : Hp} {R : Addr → Hp → Prop} {E : XK} (h : ∀ a l H', H a = none → H l = none → HxA K H' a l hx0 → Same H H' → R a H') : ∀ x dx, H x = none → H dx = none → dx ≠ x → sp_SexpHex___init__ K (.ref x :: ([] ++ [])) (upd (upd H dx (.own x)) x (.ins (C_SexpHex K) dx [])) (fun v H2 => v = .non ∧ R x H2) E := fun a dx ha hd hne =>
  ⟨_, rfl, a, dx, rfl, upd_same, fun q H' nq hN c => ⟨rfl, h a q H' ha (mk_free nq) hN (mk_same ha hd c)⟩⟩
theorem d_sexp {H : Hp} {R : Addr → Hp → Prop} {E : XK} (h : ∀ A H', (∀ x ∈ A.own, H x = none) → SxAt K H' A sx0 → Same H H' → R A.a H') : ∀ x dx, H x = none → H dx = none → dx ≠ x → sp_SexpScanner___init__ K (.ref x :: ([] ++ [])) (upd (upd H dx (.own x)) x (.ins (C_SexpScanner K) dx [])) (fun v H2 => v = .non ∧ R x H2) E := fun a dx ha hd hne =>
  ⟨_, rfl, a, dx, rfl, upd_same, fun A H' ea fr hS c => ⟨rfl, by
    rw [← ea]
    exact h A H' (fun x hx => by
      rcases fr x hx with e | e
      · rw [e]; exact ha
      · exact mk_free e) hS (mk_same ha hd c)⟩⟩
theorem ok__atom_of (F : FunD K "_atom_of" "_atom_of" (defArgs s__atom_of) (defBody s__atom_of) (defScope s__atom_of) [] [] (glAd "_atom_of" K) fd) (m : mg "_atom_of" = some (.ref (glAd "_atom_of" K))) (nb : Nm w K mg) (c_is_digit : Cal P w K mg base 1 "is_digit" sp_is_digit []) (k_Counted : Mak P w K mg base 1 "Counted" (C_Counted K) (sp_Counted___init__ K) []) (m_Counted_take : Met P w K mg base 3 (C_Counted K) "take" (sp_Counted_take K) []) (c_begins_token : Cal P w K mg base 1 "begins_token" (sp_begins_token K) []) (k_SexpToken : Mak P w K mg base 1 "SexpToken" (C_SexpToken K) (sp_SexpToken___init__ K) []) (m_SexpToken_take : Met P w K mg base 3 (C_SexpToken K) "take" (sp_SexpToken_take K) []) (k_SexpHex : Mak P w K mg base 1 "SexpHex" (C_SexpHex K) (sp_SexpHex___init__ K) []) (k_SexpBase64 : Mak P w K mg base 3 "SexpBase64" (C_SexpBase64 K) (sp_SexpBase64___init__ K) []) (k_SexpQuoted : Mak P w K mg base 1 "SexpQuoted" (C_SexpQuoted K) (sp_SexpQuoted___init__ K) []) : Cal P w K mg base 5 "_atom_of" (sp__atom_of K) [] := by
  refine calD F m sc__atom_of (fun _ _ _ _ _ _ us hl => match us, hl with | [_], _ => rfl) len1 (fun cdv A outer s H vs Q E hr h => ⟨_, (pss_cons (ps_if (pt_cmpR op_eq (pv 0) (pe_gc rfl nb.g_QUOTE) (nomark _))
    (pss_one (ps_ret (pe_mk0 k_SexpQuoted hr (by decide) rfl)))
    pss_nil)
    (pss_cons (ps_if (pt_cmpR op_eq (pv 0) (pe_gc rfl nb.g_HASH) (nomark _))
    (pss_one (ps_ret (pe_mk0 k_SexpHex hr (by decide) rfl)))
    pss_nil)
    (pss_cons (ps_if (pt_cmpR op_eq (pv 0) (pe_gc rfl nb.g_BAR) (nomark _))
    (pss_one (ps_ret (pe_mk0 k_SexpBase64 hr (by decide) rfl)))
    pss_nil)
    (pss_cons (ps_if (PW.pt (pw_and (pt_not (pt_val (pe_c c_is_digit hr (by decide) rfl (pa_cons (pv 0) pa_nil)))) (pw_and1 (pt_not (pt_val (pe_c c_begins_token hr (by decide) rfl (pa_cons (pv 0) pa_nil)))))))
    (pss_one (ps_ret pe_non))
    pss_nil)
    (pss_cons (ps_set (i := 1) sc__atom_of.nd rfl (Or.inl rfl) (pe_ifExp (pt_val (pe_c c_is_digit hr (by decide) rfl (pa_cons (pv 0) pa_nil))) (pe_mk0 k_Counted hr (by decide) rfl) (pe_mk0 k_SexpToken hr (by decide) rfl)))
    (pss_cons (ps_expr (pe_alt (pe_mt m_Counted_take hr (by decide) (pv 1) (pa_cons (pv 0) pa_nil)) (pe_mt m_SexpToken_take hr (by decide) (pv 1) (pa_cons (pv 0) pa_nil))))
    (pss_one (ps_ret (pv 1))))))))), ?_⟩)
  obtain ⟨_, rfl, b, a, rfl, e, h⟩ := h
  unfold atomOf at e
  walk_at "rf"
  refine r_ite (fun c => ?_) (fun c => ?_)
  · rw [if_pos c] at e
    cases e
    walk_at "rf"
    exact d_quo fun a l H' na nl hQ s => h (.quo a l none) H' (by simp [AtA.own, quOwn, na, nl]) (.quo hQ) s
  rw [if_neg c] at e
  walk_at "rf"
  refine r_ite (fun c => ?_) (fun c => ?_)
  · rw [if_pos c] at e
    cases e
    walk_at "rf"
    exact d_hex fun a l H' na nl hQ s => h (.hex a l) H' (by simp [AtA.own, na, nl]) (.hex hQ) s
  rw [if_neg c] at e
  walk_at "rf"
  refine r_ite (fun c => ?_) (fun c => ?_)
  · rw [if_pos c] at e
    cases e
    walk_at "rf"
    exact d_bx fun a b l H' na nb' nl hQ s => h (.b64 a b l) H' (by simp [AtA.own, na, nb', nl]) (.b64 hQ) s
  rw [if_neg c] at e
  walk_at "rf"
  refine ⟨_, rfl, b, rfl, _, rfl, ?_⟩
  cases hd : isDg b with
  | true =>
    rw [if_pos hd] at e
    cases e
    walk_at "rf"
    refine ⟨_, rfl, b, rfl, _, rfl, ?_⟩
    rw [hd]
    walk_at "rf"
    refine d_counted fun a l H1 na nl hC s1 => ?_
    walk_at "rf"
    obtain ⟨dk, hka, _⟩ := id hC
    refine .inl ?_
    walk_at "rf"
    refine ⟨_, _, rfl, a, l, ct0, b, rfl, rfl, hC, (fun z => by cases z), by show 0 < sizeLine; decide, fun H2 hC2 k2 => ?_⟩
    walk_at "rf"
    exact h (.cnt a l) H2 (by simp [AtA.own, na, nl]) (.cnt hC2) fun x u hx => k2.get (by simp; exact ⟨fun z => (by rw [z, na] at hx; cases hx), fun z => (by rw [z, nl] at hx; cases hx)⟩) (s1 _ _ hx)
  | false =>
    rw [if_neg (by rw [hd]; decide)] at e
    walk_at "rf"
    refine ⟨_, rfl, b, rfl, _, rfl, ?_⟩
    cases hb : begT b with
    | false =>
      rw [if_neg (by rw [hb]; decide)] at e
      cases e
    | true =>
      rw [if_pos hb] at e
      cases e
      walk_at "rf"
      refine ⟨_, rfl, b, rfl, _, rfl, ?_⟩
      rw [hd]
      walk_at "rf"
      refine d_tok fun a l H1 na nl hC s1 => ?_
      walk_at "rf"
      obtain ⟨dk, hka, _⟩ := id hC
      refine .inr ?_
      walk_at "rf"
      have hg : goT b = true := by
        unfold goT
        rw [hb]
        rfl
      refine ⟨_, _, rfl, a, l, [], b, rfl, rfl, hC, by show 0 < sizeLine; decide, (fun z => by rw [hg] at z; cases z), fun _ H2 hC2 k2 => ?_⟩
      walk_at "rf"
      exact h (.tok a l) H2 (by simp [AtA.own, na, nl]) (.tok hC2) fun x u hx => k2.get (by simp; exact fun z => (by rw [z, nl] at hx; cases hx)) (s1 _ _ hx)
theorem ok_SexpScanner___init__ (F : FunD K "__init__" "SexpScanner.__init__" (defArgs s_SexpScanner___init__) (defBody s_SexpScanner___init__) (defScope s_SexpScanner___init__) [] [] (meAd "SexpScanner" "__init__" K) fd) (nb : Nm w K mg) (k_Nest : Mak P w K mg base 1 "Nest" (C_Nest K) (sp_Nest___init__ K) []) : Mak P w K mg base 3 "SexpScanner" (C_SexpScanner K) (sp_SexpScanner___init__ K) [] := by
  refine makD F nb.mk_SexpScanner nb.g_SexpScanner sc_SexpScanner___init__ (fun _ _ _ _ _ _ us hl => match us, hl with | [_], _ => rfl) len1 (fun cdv A outer s H vs Q E hr h => ⟨_, (pss_cons (ps_fld (pv 0) pe_int rfl)
    (pss_cons (ps_fld (pv 0) pe_bl rfl)
    (pss_cons (ps_fld (pv 0) (pe_mk0 k_Nest hr (by decide) rfl) rfl)
    (pss_one (ps_fld (pv 0) pe_non rfl))))), ?_⟩)
  obtain ⟨_, rfl, a, dx, rfl, hA, h⟩ := h
  walk_at "rf"
  refine r_fsetE hA nb.cl_SexpScanner nb.na_SexpScanner__place (by decide) (in_SexpScanner__place) fun H1 hA1 f1 => ?_
  walk_at "rf"
  refine r_fsetE hA1 nb.cl_SexpScanner nb.na_SexpScanner__is_over (by simp) (in_SexpScanner__is_over) fun H2 hA2 f2 => ?_
  walk_at "rf"
  refine d_nest fun n l H3 nn nl hN s3 => ?_
  have an : a ≠ n := Same.ne nn hA2
  have al : a ≠ l := Same.ne nl hA2
  walk_at "rf"
  refine r_fsetE (s3 _ _ hA2) nb.cl_SexpScanner nb.na_SexpScanner__nest (by simp) (in_SexpScanner__nest) fun H4 hA4 f4 => ?_
  walk_at "rf"
  refine r_fsetE hA4 nb.cl_SexpScanner nb.na_SexpScanner__atom (by simp) (in_SexpScanner__atom) fun H5 hA5 f5 => ?_
  have k35 : Ch [a] H3 H5 := by walk_at "ch"
  have fr : ∀ x, H2 x = none → x ≠ a → H x = none := fun x hx hn => by
    rw [← f1.1 x hn, ← f2.1 x hn]
    exact hx
  have hnl := hN.2.2.2
  unfold nsOwn at hnl
  refine h ⟨a, n, l, [], .no⟩ H5 rfl (fun x hx => ?_) ⟨⟨dx, hA5⟩, hN.get k35 (fun x hx z => ?_), .no, ?_⟩ (by walk_at "ch")
  · have hx : x ∈ [a, n, l] := by simpa [SxA.own, SxA.ns, nsOwn, AtA.own] using hx
    simp at hx
    rcases hx with e | e | e
    · exact .inl e
    · exact .inr (by rw [e]; exact fr n nn (Ne.symm an))
    · exact .inr (by rw [e]; exact fr l nl (Ne.symm al))
  · have z := List.mem_singleton.mp z
    rw [z] at hx
    simp [nsOwn, an, al] at hx
  · simp [SxA.own, SxA.ns, nsOwn, AtA.own, an, al] at hnl ⊢
    exact hnl
theorem ok_SexpScanner__go_on (F : FunD K "_go_on" "SexpScanner._go_on" (defArgs s_SexpScanner__go_on) (defBody s_SexpScanner__go_on) (defScope s_SexpScanner__go_on) [] [] (meAd "SexpScanner" "_go_on" K) fd) (nb : Nm w K mg) (m_Counted_take : Met P w K mg base 3 (C_Counted K) "take" (sp_Counted_take K) []) (m_SexpToken_take : Met P w K mg base 3 (C_SexpToken K) "take" (sp_SexpToken_take K) []) (m_SexpHex_take : Met P w K mg base 2 (C_SexpHex K) "take" (sp_SexpHex_take K) []) (m_SexpBase64_take : Met P w K mg base 3 (C_SexpBase64 K) "take" (sp_SexpBase64_take K) []) (m_SexpQuoted_take : Met P w K mg base 5 (C_SexpQuoted K) "take" (sp_SexpQuoted_take K) []) (m_SexpScanner__end_atom : Met P w K mg base 3 (C_SexpScanner K) "_end_atom" (sp_SexpScanner__end_atom K) []) : Met P w K mg base 6 (C_SexpScanner K) "_go_on" (sp_SexpScanner__go_on K) [] := by
  refine metD F nb.cl_SexpScanner nb.me_SexpScanner__go_on sc_SexpScanner__go_on (fun _ _ _ _ _ _ us hl => match us, hl with | [_, _, _], _ => rfl) len3 (fun cdv A outer s H vs Q E hr h => ⟨_, (pss_cons (ps_if (pt_cmpR op_isN (pe_fld (pv 0) rfl) pe_non (nomark _))
    (pss_one (ps_ret pe_bl))
    pss_nil)
    (pss_cut (ps_set (i := 3) sc_SexpScanner__go_on.nd rfl (Or.inl rfl) (pe_alt (pe_mt m_Counted_take hr (by decide) (pe_fld (pv 0) rfl) (pa_cons (pv 1) pa_nil)) (pe_alt (pe_mt m_SexpToken_take hr (by decide) (pe_fld (pv 0) rfl) (pa_cons (pv 1) pa_nil)) (pe_alt (pe_mt m_SexpHex_take hr (by decide) (pe_fld (pv 0) rfl) (pa_cons (pv 1) pa_nil)) (pe_alt (pe_mt m_SexpBase64_take hr (by decide) (pe_fld (pv 0) rfl) (pa_cons (pv 1) pa_nil)) (pe_mt m_SexpQuoted_take hr (by decide) (pe_fld (pv 0) rfl) (pa_cons (pv 1) pa_nil)))))))
    (pss_cons (ps_if (PW.pt (pw_and (pt_not (pt_val (pv 3))) (pw_and1 (pt_not (pt_val (pe_fld (pe_fld (pv 0) rfl) rfl))))))
    (pss_one ps_never)
    pss_nil)
    (pss_cons (ps_if (PW.pt (pw_or (pt_not (pt_val (pv 3))) (pw_or1 (pt_val (pe_fld (pe_fld (pv 0) rfl) rfl)))))
    (pss_one (ps_expr (pe_mt m_SexpScanner__end_atom hr (by decide) (pv 0) (pa_cons (pv 2) pa_nil))))
    pss_nil)
    (pss_one (ps_ret (pv 3))))))), ?_⟩)
  obtain ⟨_, _, _, rfl, A, s, b, q, es, rfl, rfl, rfl, hS, ok, hl, hcalm, hE, hes, qn, h⟩ := h
  obtain ⟨⟨dx, hA⟩, hN, hT, nd⟩ := id hS
  obtain ⟨n1, n2, n3, n4, n5⟩ := sxa_nd nd
  unfold sxGo at h
  have qa : q ≠ A.a := fun e => qn (by rw [e]; exact List.mem_cons_self ..)
  have qns : q ∉ A.ns := fun e => qn (List.mem_cons_of_mem _ (List.mem_append_left _ e))
  have qt : q ∉ A.t.own := fun e => qn (List.mem_cons_of_mem _ (List.mem_append_right _ e))
  cases hno : aNo s.t with
  | true =>
    rw [if_pos hno] at h
    obtain ⟨hAt, ht⟩ := hT.no_of hno
    rw [hAt] at hA
    have hA : H A.a = some (.ins (C_SexpScanner K) dx (fs_SexpScanner (.int s.pl) (.bl s.ov) (.ref A.n) .non)) := hA
    walk_at "rf"
    refine r_itep rfl ?_
    walk_at "rf"
    exact h A H rfl (fun x hx => .inl hx) hS (by rw [List.append_nil]; exact hE) Ch.refl
  | false =>
    rw [if_neg (by rw [hno]; decide)] at h
    obtain ⟨x0, _, _, _, hv0, hx0, _⟩ := at_fld nb hT hno
    rw [hv0] at hA
    walk_at "rf"
    refine r_iteN (fun e => by cases e) ?_
    walk_at "rg"
    refine r_cut (fun σ H1 => ∃ B : AtA, B.v = .ref x0 ∧ (∀ x ∈ B.own, x ∈ A.t.own ∨ H x = none) ∧ AtAt K H1 B (aTake s.t b).2 ∧ aNo (aTake s.t b).2 = false ∧ Ch A.t.own H H1 ∧ σ = [some (.ref A.a), some (.int b), some (.ref q), some (.bl (aTake s.t b).1)]) ?_ ?_
    · walk_at "rf"
      generalize hst : s.t = t at hT hno ok
      generalize hat : A.t = B at hT hv0
      cases hT with
      | no => cases hno
      | @tok a l n hk =>
        obtain ⟨dk, hka, _⟩ := id hk
        have hv0 : a = x0 := V.ref.inj hv0
        subst hv0
        refine .inr (.inl ?_)
        walk_at "rf"
        refine ⟨_, _, rfl, a, l, n, b, rfl, rfl, hk, ok, fun c => ?_, fun c H1 h1 c1 => ?_⟩
        · have e : aTake (.tok n) b = (false, .tok n) := if_neg (by rw [c]; decide)
          rw [e]
          exact ⟨.tok a l, rfl, fun x hx => .inl hx, .tok hk, rfl, Ch.refl, rfl⟩
        · have e : aTake (.tok n) b = (true, .tok (n ++ [b])) := if_pos c
          rw [e]
          exact ⟨.tok a l, rfl, fun x hx => .inl hx, .tok h1, rfl, c1.mono (by simp [AtA.own]), rfl⟩
      | @hex a l n hk =>
        obtain ⟨dk, hka, _⟩ := id hk
        have hv0 : a = x0 := V.ref.inj hv0
        subst hv0
        refine .inr (.inr (.inl ?_))
        walk_at "rf"
        exact ⟨_, _, rfl, a, l, n, b, rfl, rfl, hk, ok, fun H1 h1 c1 => ⟨.hex a l, rfl, fun x hx => .inl hx, .hex h1, rfl, c1, rfl⟩⟩
      | @b64 a b' l n hk =>
        obtain ⟨dk, hka, _⟩ := id hk
        have hv0 : a = x0 := V.ref.inj hv0
        subst hv0
        refine .inr (.inr (.inr (.inl ?_)))
        walk_at "rf"
        exact ⟨_, _, rfl, a, b', l, n, b, rfl, rfl, hk, ok, fun H1 h1 c1 => ⟨.b64 a b' l, rfl, fun x hx => .inl hx, .b64 h1, rfl, c1, rfl⟩⟩
      | @quo a l e n hk =>
        obtain ⟨dk, hka, _⟩ := id hk
        have hv0 : a = x0 := V.ref.inj hv0
        subst hv0
        refine .inr (.inr (.inr (.inr ?_)))
        walk_at "rf"
        refine ⟨_, _, rfl, a, l, e, n, b, rfl, rfl, hk, ok, trivial, fun e' H1 he h1 c1 => ⟨.quo a l e', rfl, fun x hx => ?_, .quo h1, rfl, c1, rfl⟩⟩
        simp [AtA.own, quOwn] at hx ⊢
        rcases hx with z | z | z
        · exact .inl (.inl z)
        · exact .inl (.inr (.inl z))
        · rcases he x z with y | y
          · exact .inl (.inr (.inr y))
          · exact .inr y
      | @cnt a l n hk =>
        obtain ⟨dk, hka, _⟩ := id hk
        have hv0 : a = x0 := V.ref.inj hv0
        subst hv0
        refine .inl ?_
        walk_at "rf"
        exact ⟨_, _, rfl, a, l, n, b, rfl, rfl, hk, ok.1, ok.2, fun H1 h1 c1 => ⟨.cnt a l, rfl, fun x hx => .inl hx, .cnt h1, rfl, c1, rfl⟩⟩
    · rintro σ H1 ⟨B, hv, fr, hk1, hno1, k1, rfl⟩
      obtain ⟨x1, C, dt, fs, hv1, hx1, g1, cl1, na1, lk1, na2, lk2⟩ := at_fld nb hk1 hno1
      rw [hv] at hv1
      obtain rfl : x0 = x1 := V.ref.inj hv1
      have hA1 := k1.get n2 hA
      have hN1 := hN.get k1 n3
      have hE1 := hE.get k1 qt
      have bns : ∀ x ∈ B.own, x ∉ A.ns := fun x hx z => by
        rcases fr x hx with y | y
        · exact n4 x y z
        · obtain ⟨u, hu⟩ := hN.some x z
          rw [hu] at y
          cases y
      have ba : A.a ∉ B.own := fun z => by
        rcases fr _ z with y | y
        · exact n2 y
        · rw [hA] at y
          cases y
      have bq : q ∉ B.own := fun z => by
        rcases fr _ z with y | y
        · exact qt y
        · obtain ⟨vs, hq, _⟩ := hE
          rw [hq] at y
          cases y
      have S1 : SxAt K H1 { A with t := B } { s with t := (aTake s.t b).2 } := ⟨⟨dx, by show H1 A.a = some (.ins _ _ (fs_SexpScanner _ _ _ B.v)); rw [hv]; exact hA1⟩, hN1, hk1, sxa_mk (A := { A with t := B }) n1 ba (fun x hx z => bns x z hx) n5 hk1.nd⟩
      have frA : ∀ x ∈ ({ A with t := B } : SxA).own, x ∈ A.own ∨ H x = none := fun x hx => by
        rcases List.mem_cons.mp hx with e | hx
        · exact .inl (by rw [e]; exact List.mem_cons_self ..)
        rcases List.mem_append.mp hx with hx | hx
        · exact .inl (List.mem_cons_of_mem _ (List.mem_append_left _ hx))
        · exact (fr x hx).imp (fun z => List.mem_cons_of_mem _ (List.mem_append_right _ z)) id
      have qB : q ∉ ({ A with t := B } : SxA).own := fun z => by
        rcases List.mem_cons.mp z with e | z
        · exact qa e
        rcases List.mem_append.mp z with z | z
        · exact qns z
        · exact bq z
      have kA : Ch (q :: A.own) H H1 := k1.mono fun x hx => List.mem_cons_of_mem _ (List.mem_cons_of_mem _ (List.mem_append_right _ hx))
      have last : ∀ R : VK, ((aTake s.t b).1 = true ∧ aDone (aTake s.t b).2 = false → False) → (SxEv K H A q es (sxEndAtom { s with t := (aTake s.t b).2 }) (R .non)) → sp_SexpScanner__end_atom K ([.ref A.a, .ref q] ++ []) H1 R C8.E0 := fun R _ hR =>
        ⟨_, _, rfl, { A with t := B }, { s with t := (aTake s.t b).2 }, q, es, rfl, rfl, S1, hl, hno1, hE1, by omega, qB, fun A' H2 ea fr2 hS2 hE2 k2 => hR A' H2 ea (fun x hx => by
          rcases fr2 x hx with z | z
          · exact frA x z
          · rcases kA.fresh z with y | y
            · rcases List.mem_cons.mp y with e | y
              · rw [e] at z
                obtain ⟨vs1, hv1, _⟩ := hE1
                rw [hv1] at z
                cases z
              · exact .inl y
            · exact .inr y) hS2 hE2 (k2.ch (fun x hx => by
          rcases List.mem_cons.mp hx with e | hx
          · exact .inl (by rw [e]; exact List.mem_cons_self ..)
          · exact (frA x hx).imp (fun z => List.mem_cons_of_mem _ z) id) kA)⟩
      cases e1 : (aTake s.t b).1 with
      | false =>
        have c : ¬ ((aTake s.t b).1 = true ∧ aDone (aTake s.t b).2 = false) := fun z => by rw [e1] at z; cases z.1
        rw [if_neg c, e1] at h
        walk_at "rf"
        refine ⟨x0, C, dt, fs, _, rfl, g1, cl1, na2, lk2, ?_⟩
        refine ⟨_, rfl, ?_⟩
        rw [hcalm hno e1]
        walk_at "rf"
        refine last _ c fun A' H2 ea fr2 hS2 hE2 k2 => ?_
        walk_at "rf"
        exact h A' H2 ea fr2 hS2 hE2 k2
      | true =>
        walk_at "rf"
        refine ⟨x0, C, dt, fs, _, rfl, g1, cl1, na1, lk1, ?_⟩
        refine ⟨_, rfl, ?_⟩
        cases e2 : aDone (aTake s.t b).2 with
        | false =>
          rw [if_pos ⟨e1, e2⟩] at h
          walk_at "rf"
          exact h { A with t := B } H1 rfl frA S1 (by rw [List.append_nil]; exact hE1) kA
        | true =>
          have c : ¬ ((aTake s.t b).1 = true ∧ aDone (aTake s.t b).2 = false) := fun z => by rw [e2] at z; cases z.2
          rw [if_neg c, e1] at h
          walk_at "rf"
          refine last _ c fun A' H2 ea fr2 hS2 hE2 k2 => ?_
          walk_at "rf"
          exact h A' H2 ea fr2 hS2 hE2 k2
end

theorem sxGo_no {s : Sx} {o : Int} (h : (sxGo s o).1 = false) : aNo (sxGo s o).2.2.t = true ∧ (sxGo s o).2.2.lv = s.lv := by
  unfold sxGo at h ⊢
  by_cases c : aNo s.t = true
  · rw [if_pos c]
    exact ⟨c, rfl⟩
  rw [if_neg c] at h ⊢
  by_cases c2 : (aTake s.t o).1 = true ∧ aDone (aTake s.t o).2 = false
  · rw [if_pos c2] at h
    cases h
  rw [if_neg c2]
  exact ⟨rfl, rfl⟩
theorem sxGo_len (s : Sx) (o : Int) : (sxGo s o).2.1.length ≤ 1 := by
  unfold sxGo
  by_cases c : aNo s.t = true
  · rw [if_pos c]
    exact Nat.zero_le _
  rw [if_neg c]
  by_cases c2 : (aTake s.t o).1 = true ∧ aDone (aTake s.t o).2 = false
  · rw [if_pos c2]
    exact Nat.zero_le _
  rw [if_neg c2]
  exact Nat.le_refl _
section
variable {P : Program} {w : World} {K : PySem.W.Frag} {mg : Str → Option Value} {base : Heap} {f : Addr} {fd : FuncData}
theorem ok_SexpScanner__take_mark (F : FunD K "_take_mark" "SexpScanner._take_mark" (defArgs s_SexpScanner__take_mark) (defBody s_SexpScanner__take_mark) (defScope s_SexpScanner__take_mark) [] [] (meAd "SexpScanner" "_take_mark" K) fd) (nb : Nm w K mg) (m_Nest_grow : Met P w K mg base 1 (C_Nest K) "grow" (sp_Nest_grow K) []) (c__atom_of : Cal P w K mg base 5 "_atom_of" (sp__atom_of K) []) (m_SexpScanner__close : Met P w K mg base 3 (C_SexpScanner K) "_close" (sp_SexpScanner__close K) []) : Met P w K mg base 6 (C_SexpScanner K) "_take_mark" (sp_SexpScanner__take_mark K) [] := by
  obtain ⟨v_WHITESPACE, u_WHITESPACE, e_WHITESPACE, r_WHITESPACE, k_WHITESPACE⟩ := nb.g_WHITESPACE
  refine metD F nb.cl_SexpScanner nb.me_SexpScanner__take_mark sc_SexpScanner__take_mark (fun _ _ _ _ _ _ us hl => match us, hl with | [_, _, _], _ => rfl) len3 (fun cdv A outer s H vs Q E hr h => ⟨_, (pss_cons (ps_if (pt_cmpR op_in_seq (pv 1) (pe_gc rfl ⟨u_WHITESPACE, e_WHITESPACE, r_WHITESPACE⟩) rfl)
    (pss_one (ps_ret pe_bl))
    pss_nil)
    (pss_cons (ps_if (pt_val (pe_fld (pv 0) rfl))
    (pss_one (ps_ret pe_bl))
    pss_nil)
    (pss_cons (ps_if (pt_cmpR op_eq (pv 1) (pe_gc rfl nb.g_OPENS) (nomark _))
    (pss_cons (ps_expr (pe_bm PySem.F.plainAttrs_list PySem.F.slot_list_append PySem.F.type_list_append mt_append (pv 2) (pa_cons (pe_tupE (pa_cons pe_str (pa_cons pe_str pa_nil))) pa_nil)))
    (pss_one (ps_ret (pe_mt m_Nest_grow hr (by decide) (pe_fld (pv 0) rfl) (pa_cons pe_str pa_nil)))))
    pss_nil)
    (pss_cons (ps_if (pt_cmpR op_eq (pv 1) (pe_gc rfl nb.g_CLOSES) (nomark _))
    (pss_one (ps_ret (pe_mt m_SexpScanner__close hr (by decide) (pv 0) (pa_cons (pv 2) pa_nil))))
    pss_nil)
    (pss_cons (ps_fld (pv 0) (pe_c c__atom_of hr (by decide) rfl (pa_cons (pv 1) pa_nil)) rfl)
    (pss_one (ps_ret (pe_cmpR op_notN (pe_fld (pv 0) rfl) pe_non (nomark _))))))))), ?_⟩)
  obtain ⟨_, _, _, rfl, A, s, b, q, es, rfl, rfl, rfl, hS, hl, hno, hok, hE, hes, qn, h⟩ := h
  obtain ⟨⟨dx, hA⟩, hN, hT, nd⟩ := id hS
  obtain ⟨vs, hq, tp⟩ := id hE
  obtain ⟨n1, n2, n3, n4, n5⟩ := sxa_nd nd
  obtain ⟨hAt, ht⟩ := hT.no_of hno
  have qa : q ≠ A.a := fun e => qn (by rw [e]; exact List.mem_cons_self ..)
  have qns : q ∉ A.ns := fun e => qn (List.mem_cons_of_mem _ (List.mem_append_left _ e))
  obtain ⟨wm, ys, rfl, hM, hW⟩ := dp_tup (k_WHITESPACE H)
  have hW : ys = wsp.map V.int := dp_ints wsp hW
  subst hW
  unfold sxMark at h hok
  walk_at "rf"
  refine ⟨wm, wsp.map V.int, rfl, .inr hM, rfl, rfl, ?_⟩
  rw [if_neg Bool.false_ne_true, in_ints]
  walk_at "rf"
  refine r_ite (fun c => ?_) (fun c => ?_)
  · rw [if_pos c] at h
    walk_at "rf"
    exact h A H rfl (fun x hx => .inl hx) hS (by rw [List.append_nil]; exact hE) Ch.refl
  rw [if_neg c] at h hok
  walk_at "rf"
  cases hov : s.ov with
  | true =>
    rw [if_pos hov] at hok
    cases hok
  | false =>
  rw [if_neg (by rw [hov]; decide)] at h hok
  walk_at "rf"
  refine r_ite (fun c => ?_) (fun c => ?_)
  · rw [if_pos c] at h hok
    by_cases c24 : s.lv.length = 24
    · rw [if_pos c24] at hok
      cases hok
    rw [if_neg c24] at h
    walk_at "rf"
    refine ⟨tyL hq, ?_⟩
    walk_at "rf"
    refine ⟨by show 2 ≤ sizeLine; decide, fun T H2 nT gT s2 => ?_⟩
    walk_at "rf"
    refine r_appE (s2 _ _ hq) (by rw [evl_len tp]; exact small1000 (by omega)) fun H3 hq3 f3 => ?_
    have k3 : Ch [q] H H3 := Ch.eb f3 (by simp) (Ch.same s2 Ch.refl)
    have e3 : EvL H3 q (es ++ [.op false]) := ev_add (TpAll.tk (Same.tk s2) _ _ tp) (.tup gT (.cons (.str _) (.cons (.str _) .nil))) hq3 (fun b xs h => (f3.1 b fun q => by rw [q] at h; exact f3.2 xs h).trans h)
    have hA3 := k3.get (x := A.a) (by simp [Ne.symm qa]) hA
    have hN3 := hN.get k3 fun x hx z => qns (by rw [← List.mem_singleton.mp z]; exact hx)
    obtain ⟨⟨dn, hn⟩, hL, hV, hD⟩ := id hN3
    walk_at "rf"
    refine ⟨_, _, rfl, A.n, A.ll, A.ds, s.lv, false, rfl, rfl, hN3, hl, fun z => absurd z c24, fun _ d H4 nd1 nd2 hN4 k4 => ?_⟩
    have sub : ∀ x ∈ nsOwn A.n A.ll (d :: A.ds), x ≠ A.a ∧ x ≠ q := nest_fresh nd2 (fun x => x ≠ A.a ∧ x ≠ q) (fun x hx => ⟨fun e => n1 (by rw [← e]; exact hx), fun e => qns (by rw [← e]; exact hx)⟩) fun z => ⟨fun e => (by rw [e, hA3] at z; cases z), fun e => (by rw [e, hq3] at z; cases z)⟩
    refine h { A with ds := d :: A.ds } H4 rfl ?_ ⟨⟨dx, k4.get n1 hA3⟩, hN4, ?_, ?_⟩ (e3.get k4 qns) ?_
    · intro x hx
      rcases List.mem_cons.mp hx with e | hx
      · exact .inl (by rw [e]; exact List.mem_cons_self ..)
      rcases List.mem_append.mp hx with hx | hx
      · refine nest_fresh nd2 (fun x => x ∈ A.own ∨ H x = none) (fun x hx => .inl (List.mem_cons_of_mem _ (List.mem_append_left _ hx))) (fun z => ?_) x hx
        rcases k3.fresh z with y | y
        · rw [List.mem_singleton.mp y, hq3] at z
          cases z
        · exact .inr y
      · exact .inl (List.mem_cons_of_mem _ (List.mem_append_right _ hx))
    · show AtAt K H4 A.t s.t
      rw [hAt, ht]
      exact .no
    · exact sxa_mk (A := { A with ds := d :: A.ds }) (fun z => (sub _ z).1 rfl) n2 (fun x hx => by show x ∉ A.t.own; rw [hAt]; simp [AtA.own]) hN4.2.2.2 (by show A.t.own.Nodup; rw [hAt]; exact List.nodup_nil)
    · exact k4.ch (fun x hx => .inl (List.mem_cons_of_mem _ (List.mem_cons_of_mem _ (List.mem_append_left _ hx)))) (k3.mono (by simp))
  rw [if_neg c] at h hok
  walk_at "rf"
  refine r_ite (fun c => ?_) (fun c => ?_)
  · rw [if_pos c] at h hok
    walk_at "rf"
    refine ⟨_, _, rfl, A, s, q, es, rfl, rfl, hS, hl, fun z => ?_, hE, hes, qn, h⟩
    unfold sxClose at hok
    rw [z] at hok
    cases hok
  rw [if_neg c] at h hok
  cases ea : atomOf b with
  | none =>
    rw [ea] at hok
    cases hok
  | some a =>
    rw [ea] at h
    walk_at "rf"
    refine ⟨_, rfl, b, a, rfl, ea, fun B H1 fr hB s1 => ?_⟩
    have hA1 := s1 _ _ hA
    have hno1 : aNo a = false := by
      unfold atomOf at ea
      split at ea
      · cases ea; rfl
      split at ea
      · cases ea; rfl
      split at ea
      · cases ea; rfl
      split at ea
      · cases ea; rfl
      split at ea
      · cases ea; rfl
      · cases ea
    obtain ⟨x1, _, _, _, hv1, hx1, g1, _⟩ := at_fld nb hB hno1
    walk_at "rf"
    walk_at "fs"
    intro H2 hA2 f2
    have k2 : Ch [A.a] H1 H2 := by walk_at "ch"
    have kk : Ch [A.a] H H2 := k2.ch (fun x hx => .inl hx) (Ch.same s1 Ch.refl)
    have old : ∀ x, (∃ u, H x = some u) → x ∉ B.own := fun x ⟨u, hu⟩ z => by
      rw [fr x z] at hu
      cases hu
    have ba : A.a ∉ B.own := old _ ⟨_, hA⟩
    walk_at "rf"
    have hb2 : (!decide (B.v = V.non)) = true := by rw [hv1]; rfl
    rw [hb2]
    have hN2 := hN.get kk fun x hx z => n1 (by rw [← List.mem_singleton.mp z]; exact hx)
    refine h { A with t := B } H2 rfl ?_ ⟨⟨dx, hA2⟩, hN2, hB.get k2 (fun x hx z => ba (by rw [← List.mem_singleton.mp z]; exact hx)), ?_⟩ (by rw [List.append_nil]; exact hE.get kk (by simp [qa])) (kk.mono (by simp [SxA.own]))
    · intro x hx
      rcases List.mem_cons.mp hx with e | hx
      · exact .inl (by rw [e]; exact List.mem_cons_self ..)
      rcases List.mem_append.mp hx with hx | hx
      · exact .inl (List.mem_cons_of_mem _ (List.mem_append_left _ hx))
      · exact .inr (fr x hx)
    · exact sxa_mk (A := { A with t := B }) n1 ba (fun x hx => old x (hN.some x hx)) n5 hB.nd
theorem ok_SexpScanner_step (F : FunD K "step" "SexpScanner.step" (defArgs s_SexpScanner_step) (defBody s_SexpScanner_step) (defScope s_SexpScanner_step) [] [] (meAd "SexpScanner" "step" K) fd) (nb : Nm w K mg) (m_SexpScanner__go_on : Met P w K mg base 6 (C_SexpScanner K) "_go_on" (sp_SexpScanner__go_on K) []) (m_SexpScanner__take_mark : Met P w K mg base 6 (C_SexpScanner K) "_take_mark" (sp_SexpScanner__take_mark K) []) : Met P w K mg base 7 (C_SexpScanner K) "step" (sp_SexpScanner_step K) [] := by
  refine metD F nb.cl_SexpScanner nb.me_SexpScanner_step sc_SexpScanner_step (fun _ _ _ _ _ _ us hl => match us, hl with | [_, _], _ => rfl) len2 (fun cdv A outer s H vs Q E hr h => ⟨_, (pss_cons (ps_set (i := 2) sc_SexpScanner_step.nd rfl (Or.inl rfl) (pe_lstE pa_nil))
    (pss_cons (ps_if (PW.pt (pw_and (pt_not (pt_val (pe_mt m_SexpScanner__go_on hr (by decide) (pv 0) (pa_cons (pv 1) (pa_cons (pv 2) pa_nil))))) (pw_and1 (pt_not (pt_val (pe_mt m_SexpScanner__take_mark hr (by decide) (pv 0) (pa_cons (pv 1) (pa_cons (pv 2) pa_nil))))))))
    (pss_one ps_never)
    pss_nil)
    (pss_cons (ps_fld (pv 0) (pe_op op_add (pe_fld (pv 0) rfl) pe_int) rfl)
    (pss_one (ps_ret (pv 2)))))), ?_⟩)
  obtain ⟨_, _, rfl, A, s, b, rfl, rfl, hS, ⟨ok, hl, calm, hok⟩, h⟩ := h
  obtain ⟨⟨dx, hA⟩, hN, hT, nd⟩ := id hS
  walk_at "rf"
  refine ⟨by show 0 ≤ sizeLine; decide, fun q H1 nq gq s1 => ?_⟩
  have k1 : Ch [] H H1 := Ch.same s1 Ch.refl
  have hS1 := hS.get k1 (by simp)
  have hA1 := s1 _ _ hA
  have own1 := hS.some
  have q0 : q ∉ A.own := fun z => by
    obtain ⟨u, hu⟩ := own1 q z
    rw [nq] at hu
    cases hu
  /- the end of a step -/
  have fin : ∀ A' H2, A'.a = A.a → (∀ x ∈ A'.own, x ∈ A.own ∨ H1 x = none) → SxAt K H2 A' (sxTake s b).2.2 → EvL H2 q (sxTake s b).2.1 → Ch (q :: A.own) H1 H2 → ∀ dx3 H3, H3 A'.a = some (.ins (C_SexpScanner K) dx3 (fs_SexpScanner (.int ((sxTake s b).2.2.pl + 1 : Nat)) (.bl (sxTake s b).2.2.ov) (.ref A'.n) A'.t.v)) → Eb A'.a H2 H3 → Q (.ref q) H3 := fun A' H2 ea fr hS2 hE2 k2 dx3 H3 g3 f3 => by
    obtain ⟨⟨dx2, hA2⟩, hN2, hT2, nd2⟩ := id hS2
    obtain ⟨m1, m2, m3, m4, m5⟩ := sxa_nd nd2
    have k3 : Ch [A'.a] H2 H3 := Ch.eb f3 (by simp) Ch.refl
    have fr2 : ∀ x ∈ A'.own, x ∈ A.own ∨ H x = none := fun x hx => (fr x hx).imp id fun z => s1.free z
    have qn : q ∉ A'.own := fun z => by
      rcases fr q z with e | e
      · exact q0 e
      · rw [gq] at e
        cases e
    refine h A' q H3 ea fr2 ⟨⟨_, g3⟩, hN2.get k3 (fun x hx z => m1 (by rw [← List.mem_singleton.mp z]; exact hx)), hT2.get k3 (fun x hx z => m2 (by rw [← List.mem_singleton.mp z]; exact hx)), nd2⟩ (hE2.get k3 fun z => qn (by rw [List.mem_singleton.mp z]; exact List.mem_cons_self ..)) nq qn ?_
    refine k3.ch (fun x hx => ?_) (k2.ch (fun x hx => ?_) (Ch.same s1 Ch.refl))
    · rw [List.mem_singleton.mp hx, ea]
      exact .inl (List.mem_cons_self ..)
    · rcases List.mem_cons.mp hx with e | e
      · rw [e]; exact .inr nq
      · exact .inl e
  walk_at "rf"
  refine ⟨_, _, _, rfl, A, s, b, q, [], rfl, rfl, rfl, hS1, ok, hl, calm, ⟨[], gq, .nil⟩, Nat.zero_le _, q0, ?_⟩
  intro A2 H2 ea2 fr2 hS2 hE2 k2
  obtain ⟨⟨dx2, hA2⟩, _, _, _⟩ := id hS2
  refine ⟨_, rfl, ?_⟩
  cases e1 : (sxGo s b).1 with
  | true =>
    have e : sxTake s b = sxGo s b := if_pos e1
    rw [e] at fin
    rw [ea2] at hA2
    walk_at "rf"
    walk_at "fs"
    intro H3 hA3 f3
    walk_at "rf"
    refine fin A2 H2 ea2 fr2 hS2 hE2 k2 dx2 H3 ?_ (by rw [ea2]; exact f3)
    have en : (((sxGo s b).2.2.pl + 1 : Nat) : Int) = ((sxGo s b).2.2.pl : Int) + 1 := by omega
    rw [en, ea2]
    exact hA3
  | false =>
    have e : sxTake s b = ((sxMark (sxGo s b).2.2 b).1, (sxGo s b).2.1 ++ (sxMark (sxGo s b).2.2 b).2.1, (sxMark (sxGo s b).2.2 b).2.2) := if_neg (by rw [e1]; decide)
    rw [e] at fin hok
    obtain ⟨no2, lv2⟩ := sxGo_no e1
    have len2 := sxGo_len s b
    rw [ea2] at hA2
    have q2 : q ∉ A2.own := fun z => by
      rcases fr2 q z with y | y
      · exact q0 y
      · rw [gq] at y
        cases y
    walk_at "rf"
    refine ⟨_, _, _, rfl, A2, (sxGo s b).2.2, b, q, (sxGo s b).2.1, congrArg V.ref ea2.symm, rfl, rfl, hS2, by rw [lv2]; exact hl, no2, hok, hE2, by omega, q2, ?_⟩
    intro A3 H3 ea3 fr3 hS3 hE3 k3
    obtain ⟨⟨dx3, hA3⟩, _, _, _⟩ := id hS3
    rw [ea3, ea2] at hA3
    walk_at "rf"
    walk_at "fs"
    intro H4 hA4 f4
    walk_at "rf"
    refine fin A3 H3 (ea3.trans ea2) (fun x hx => ?_) hS3 hE3 (k3.ch (fun x hx => ?_) k2) dx3 H4 ?_ (by rw [ea3, ea2]; exact f4)
    · rcases fr3 x hx with y | y
      · exact fr2 x y
      · rcases k2.fresh y with z | z
        · rcases List.mem_cons.mp z with w | w
          · obtain ⟨vs2, hv2, _⟩ := hE2
            rw [w, hv2] at y
            cases y
          · exact .inl w
        · exact .inr z
    · rcases List.mem_cons.mp hx with y | y
      · exact .inl (by rw [y]; exact List.mem_cons_self ..)
      · exact (fr2 x y).imp (fun z => List.mem_cons_of_mem _ z) id
    · have en : (((sxMark (sxGo s b).2.2 b).2.2.pl + 1 : Nat) : Int) = ((sxMark (sxGo s b).2.2 b).2.2.pl : Int) + 1 := by omega
      show H4 A3.a = some (HO.ins _ _ (fs_SexpScanner (.int (((sxMark (sxGo s b).2.2 b).2.2.pl + 1 : Nat) : Int)) _ _ _))
      rw [en, ea3, ea2]
      exact hA4
theorem ok_SexpScanner_end (F : FunD K "end" "SexpScanner.end" (defArgs s_SexpScanner_end) (defBody s_SexpScanner_end) (defScope s_SexpScanner_end) [] [] (meAd "SexpScanner" "end" K) fd) (nb : Nm w K mg) (m_SexpScanner__end_atom : Met P w K mg base 3 (C_SexpScanner K) "_end_atom" (sp_SexpScanner__end_atom K) []) : Met P w K mg base 4 (C_SexpScanner K) "end" (sp_SexpScanner_end K) [] := by
  refine metD F nb.cl_SexpScanner nb.me_SexpScanner_end sc_SexpScanner_end (fun _ _ _ _ _ _ us hl => match us, hl with | [_], _ => rfl) len1 (fun cdv A outer s H vs Q E hr h => ⟨_, (pss_cons (ps_set (i := 1) sc_SexpScanner_end.nd rfl (Or.inl rfl) (pe_lstE pa_nil))
    (pss_cut (ps_if (PW.pt (pw_and (pt_cmpR op_notN (pe_fld (pv 0) rfl) pe_non (nomark _)) (pw_and1 (pt_val (pe_fld (pe_fld (pv 0) rfl) rfl)))))
    (pss_one (ps_expr (pe_mt m_SexpScanner__end_atom hr (by decide) (pv 0) (pa_cons (pv 1) pa_nil))))
    pss_nil)
    (pss_cons (ps_if (pt_not (pt_val (pe_fld (pv 0) rfl)))
    (pss_one ps_never)
    pss_nil)
    (pss_one (ps_ret (pv 1)))))), ?_⟩)
  obtain ⟨_, rfl, A, s, rfl, hS, hw, h⟩ := h
  obtain ⟨⟨dx, hA⟩, hN, hT, nd⟩ := id hS
  walk_at "rf"
  refine ⟨by show 0 ≤ sizeLine; decide, fun q H1 nq gq s1 => ?_⟩
  have k1 : Ch [] H H1 := Ch.same s1 Ch.refl
  have hS1 := hS.get k1 (by simp)
  have hA1 := s1 _ _ hA
  have own1 := hS.some
  have q0 : q ∉ A.own := fun z => by
    obtain ⟨u, hu⟩ := own1 q z
    rw [nq] at hu
    cases hu
  have qa : q ≠ A.a := fun e => q0 (by rw [e]; exact List.mem_cons_self ..)
  walk_at "rg"
  refine r_cut (fun σ H2 => σ = [some (.ref A.a), some (.ref q)] ∧ EvL H2 q (sxLate s) ∧ Ch (q :: A.own) H1 H2 ∧ ∃ A' s', A'.a = A.a ∧ SxAt K H2 A' s' ∧ s'.ov = true) ?_ ?_
  · unfold sxLate
    cases hno : aNo s.t with
    | true =>
      rw [if_pos rfl]
      obtain ⟨hAt, ht⟩ := hT.no_of hno
      have hov : s.ov = true := by
        rcases hw with z | z
        · exact z.2
        · rw [ht] at z
          cases z.1
      rw [hAt] at hA1
      have hA1 : H1 A.a = some (.ins (C_SexpScanner K) dx (fs_SexpScanner (.int s.pl) (.bl s.ov) (.ref A.n) .non)) := hA1
      walk_at "rf"
      rw [if_neg (show ¬ (!decide (V.non = V.non)) = true by decide)]
      walk_at "rf"
      exact ⟨rfl, ⟨[], gq, .nil⟩, Ch.refl, A, s, rfl, hS1, hov⟩
    | false =>
      rw [if_neg (by decide)]
      have he : aEnds s.t = true ∧ s.lv = [] := hw.resolve_left fun z => by
        rw [hno] at z
        cases z.1
      obtain ⟨x1, C, dt, fs, hv1, hx1, g1, cl1, na1, lk1, na2, lk2⟩ := at_fld nb hS1.tk hno
      rw [hv1] at hA1
      rw [he.1] at lk2
      walk_at "rf"
      rw [if_pos (show (!decide (V.ref x1 = V.non)) = true by simp)]
      walk_at "rf"
      refine ⟨x1, C, dt, fs, _, rfl, g1, cl1, na2, lk2, ?_⟩
      walk_at "rf"
      refine ⟨_, _, rfl, A, s, q, [], rfl, rfl, hS1, by rw [he.2]; exact Nat.zero_le _, hno, ⟨[], gq, .nil⟩, Nat.zero_le _, q0, fun A' H2 ea fr hS2 hE2 k2 => ?_⟩
      exact ⟨rfl, hE2, k2, A', _, ea, hS2, by show s.lv.isEmpty = true; rw [he.2]; rfl⟩
  · rintro σ H2 ⟨rfl, hE2, k2, A', s', ea, ⟨⟨dx2, hA2⟩, _, _, _⟩, hov⟩
    rw [ea, hov] at hA2
    walk_at "rf"
    refine h q H2 nq hE2 q0 (k2.ch (fun x hx => ?_) (Ch.same s1 Ch.refl))
    rcases List.mem_cons.mp hx with e | e
    · rw [e]; exact .inr nq
    · exact .inl e
end

/-! ### what is written is scanned -/
def asc (x : List Nat) : List Int := x.map fun (c : Nat) => Int.ofNat c
def sxStep (s : Sx) (o : Int) : Sx := { (sxTake s o).2.2 with pl := (sxTake s o).2.2.pl + 1 }
def Runs : Sx → List Int → List (List Ev) → Sx → Prop
  | s, [], [], t => t = s
  | s, o :: os, r :: rs, t => SxOk s o ∧ (sxTake s o).2.1 = r ∧ Runs (sxStep s o) os rs t
  | _, [], _ :: _, _ => False
  | _, _ :: _, [], _ => False
theorem Runs.app : ∀ {a b : List Int} {ra rb : List (List Ev)} {s m t : Sx}, Runs s a ra m → Runs m b rb t → Runs s (a ++ b) (ra ++ rb) t
  | [], _, [], _, s, m, t, h1, h2 => by
    have h1 : m = s := h1
    subst h1
    exact h2
  | o :: os, _, r :: rs, _, s, m, t, h1, h2 => ⟨h1.1, h1.2.1, Runs.app h1.2.2 h2⟩
  | [], _, _ :: _, _, _, _, _, h1, _ => h1.elim
  | _ :: _, _, [], _, _, _, _, h1, _ => h1.elim
theorem Runs.one {s : Sx} {o : Int} {r : List Ev} {t : Sx} (w : aOk s.t) (hl : s.lv.length ≤ 24) (c : sxCalm s o) (e : sxTake s o = (true, r, t)) : Runs s [o] [r] { t with pl := t.pl + 1 } := by
  refine ⟨⟨w, hl, c, by rw [e]⟩, by rw [e], ?_⟩
  show _ = sxStep s o
  unfold sxStep
  rw [e]
/-- nothing is told for so many octets -/
def Nils (os : List Int) : List (List Ev) := List.replicate os.length []
theorem nils_app (a b : List Int) : Nils (a ++ b) = Nils a ++ Nils b := by
  unfold Nils
  rw [List.length_append, List.replicate_append_replicate]
/-! an atom takes octets, and is not done -/
def Fit (a : Atm) : Prop := aNo a = false ∧ aOk a ∧ aDone a = false
def Rn : Atm → List Int → Atm → Prop
  | a, [], b => b = a ∧ Fit a
  | a, o :: os, b => Fit a ∧ (aTake a o).1 = true ∧ Rn (aTake a o).2 os b
theorem Rn.fit : ∀ {os : List Int} {a b : Atm}, Rn a os b → Fit a
  | [], _, _, h => h.2
  | _ :: _, _, _, h => h.1
theorem Rn.fitE : ∀ {os : List Int} {a b : Atm}, Rn a os b → Fit b
  | [], _, _, h => by rw [h.1]; exact h.2
  | _ :: os, _, _, h => Rn.fitE (os := os) h.2.2
theorem Rn.app : ∀ {os ps : List Int} {a b c : Atm}, Rn a os b → Rn b ps c → Rn a (os ++ ps) c
  | [], _, _, _, _, h, h2 => by rw [← h.1]; exact h2
  | _ :: os, _, _, _, _, h, h2 => ⟨h.1, h.2.1, Rn.app (os := os) h.2.2 h2⟩
theorem Rn.nil {a : Atm} (h : Fit a) : Rn a [] a := ⟨rfl, h⟩
theorem Rn.one {a b : Atm} {o : Int} (h : Fit a) (e : aTake a o = (true, b)) (h2 : Fit b) : Rn a [o] b := ⟨h, by rw [e], by rw [e], by rw [e]; exact h2⟩
theorem go_no {s : Sx} (h : aNo s.t = true) (o : Int) : sxGo s o = (false, [], s) := if_pos h
theorem take_no {s : Sx} (h : aNo s.t = true) (o : Int) : sxTake s o = sxMark s o := by
  unfold sxTake
  rw [go_no h, if_neg (fun z => Bool.noConfusion z)]
  rfl
theorem calm_no {s : Sx} {o : Int} (h : aNo s.t = true) : sxCalm s o := fun z => by rw [h] at z; cases z
theorem ok_no {a : Atm} (h : aNo a = true) : aOk a := by
  cases a <;> first | trivial | cases h
theorem calm_ok {s : Sx} {o : Int} (h : (aTake s.t o).1 = true) : sxCalm s o := fun _ z => by rw [h] at z; cases z
theorem go_step {s : Sx} {o : Int} {b : Atm} (h : aNo s.t = false) (e : aTake s.t o = (true, b)) (d : aDone b = false) : sxTake s o = (true, [], { s with t := b }) := by
  have e1 : sxGo s o = (true, [], { s with t := b }) := by
    unfold sxGo
    rw [if_neg (by rw [h]; decide), e, if_pos ⟨rfl, d⟩]
  unfold sxTake
  rw [e1, if_pos rfl]
theorem go_end {s : Sx} {o : Int} {b : Atm} (h : aNo s.t = false) (e : aTake s.t o = (true, b)) (d : aDone b = true) : sxTake s o = (true, [.lf "bytes" [kd (aOs b)]], sxEnd { s with t := .no }) := by
  have e1 : sxGo s o = (true, [.lf "bytes" [kd (aOs b)]], sxEnd { s with t := .no }) := by
    unfold sxGo
    rw [if_neg (by rw [h]; decide), e, if_neg (fun z => by rw [d] at z; cases z.2)]
    rfl
  unfold sxTake
  rw [e1, if_pos rfl]
theorem runs_rn : ∀ {os : List Int} {a b : Atm} {s : Sx}, Rn a os b → s.t = a → s.lv.length ≤ 24 → ∃ pl, Runs s os (Nils os) { s with t := b, pl := pl }
  | [], a, b, s, h, e, hl => ⟨s.pl, by rw [h.1, ← e]; rfl⟩
  | o :: os, a, b, s, h, e, hl => by
    have hf := h.1
    have e1 : aTake s.t o = (true, (aTake a o).2) := by rw [e, ← h.2.1]
    have st := go_step (s := s) (by rw [e]; exact hf.1) e1 h.2.2.fit.2.2
    obtain ⟨pl, r⟩ := runs_rn (s := { s with t := (aTake a o).2, pl := s.pl + 1 }) h.2.2 rfl hl
    refine ⟨pl, ?_⟩
    show Runs s ([o] ++ os) ([[]] ++ Nils os) _
    exact (Runs.one (by rw [e]; exact hf.2.1) hl (calm_ok (by rw [e1])) st).app r
/-- a row that is read as these octets, told with its last one -/
def RowW (os row : List Int) : Prop := ∃ o rest c a0 a1 b, row = o :: (rest ++ [c]) ∧ atomOf o = some a0 ∧ Rn a0 rest a1 ∧ aTake a1 c = (true, b) ∧ aDone b = true ∧ aOs b = os
/-- a token, told with what stands behind it -/
def TokW (os : List Int) : Prop := ∃ o r, os = o :: r ∧ begT o = true ∧ (∀ c ∈ r, goT c = true) ∧ os.length < sizeLine
theorem atom_off {o : Int} {a : Atm} (h : atomOf o = some a) : o ∉ wsp ∧ o ≠ 40 ∧ o ≠ 41 := by
  refine ⟨fun z => ?_, fun z => ?_, fun z => ?_⟩
  · simp [wsp] at z
    rcases z with e | e | e | e | e | e <;> subst e <;> exact absurd h (by simp [atomOf, isDg, begT, tmarks])
  · subst z
    exact absurd h (by simp [atomOf, isDg, begT, tmarks])
  · subst z
    exact absurd h (by simp [atomOf, isDg, begT, tmarks])
theorem mark_atom {s : Sx} {o : Int} {a : Atm} (h : atomOf o = some a) (hv : s.ov = false) : sxMark s o = (true, [], { s with t := a }) := by
  obtain ⟨h1, h2, h3⟩ := atom_off h
  unfold sxMark
  rw [if_neg h1, if_neg (by rw [hv]; decide), if_neg h2, if_neg h3, h]
/-- what so many octets tell: something with the first, something with the last -/
def Sprd (late : List Ev) : Nat → List Ev → List (List Ev)
  | 0, _ => []
  | 1, e => [late ++ e]
  | n + 2, e => late :: (List.replicate n [] ++ [e])
theorem run_row {s : Sx} {os row : List Int} (h : RowW os row) (hn : aNo s.t = true) (hv : s.ov = false) (hl : s.lv.length ≤ 24) : ∃ pl, Runs s row (Sprd [] row.length [.lf "bytes" [kd os]]) { (sxEnd { s with t := .no }) with pl := pl } := by
  obtain ⟨o, rest, c, a0, a1, b, rfl, h1, h2, h3, h4, h5⟩ := h
  have f1 := h2.fitE
  obtain ⟨pl, r⟩ := runs_rn (s := { s with t := a0, pl := s.pl + 1 }) h2 rfl hl
  have st : sxTake s o = (true, [], { s with t := a0 }) := (take_no hn o).trans (mark_atom h1 hv)
  have en := go_end (s := { s with t := a1, pl := pl }) f1.1 h3 h4
  rw [h5] at en
  refine ⟨pl + 1, ?_⟩
  have e : Sprd [] (o :: (rest ++ [c])).length [Ev.lf "bytes" [kd os]] = [[]] ++ (Nils rest ++ [[.lf "bytes" [kd os]]]) := by
    rw [List.length_cons, List.length_append]
    rfl
  rw [e]
  show Runs s ([o] ++ (rest ++ [c])) _ _
  exact (Runs.one (ok_no hn) hl (calm_no hn) st).app (r.app (Runs.one (t := sxEnd { s with t := .no, pl := pl }) f1.2.1 hl (calm_ok (by rw [h3])) en))
theorem run_tok {s : Sx} {os : List Int} (h : TokW os) (hn : aNo s.t = true) (hv : s.ov = false) (hl : s.lv.length ≤ 24) : ∃ pl, Runs s os (Sprd [] os.length []) { s with t := .tok os, pl := pl } := by
  obtain ⟨o, r, rfl, h1, h2, h3⟩ := h
  have go : ∀ (r done : List Int), (∀ c ∈ r, goT c = true) → done.length + r.length < sizeLine → Rn (.tok done) r (.tok (done ++ r)) := by
    intro r
    induction r with
    | nil =>
      intro done _ hd
      exact ⟨by rw [List.append_nil], rfl, by show done.length < sizeLine; simpa using hd, rfl⟩
    | cons c r ih =>
      intro done hg hd
      have hd : done.length + (r.length + 1) < sizeLine := hd
      have e : aTake (.tok done) c = (true, .tok (done ++ [c])) := if_pos (hg c (by simp))
      refine ⟨⟨rfl, by show done.length < sizeLine; omega, rfl⟩, by rw [e], ?_⟩
      rw [e]
      have := ih (done ++ [c]) (fun x hx => hg x (List.mem_cons_of_mem _ hx)) (by rw [List.length_append]; show done.length + 1 + r.length < sizeLine; omega)
      rw [List.append_assoc] at this
      exact this
  have ea : atomOf o = some (.tok [o]) := by
    have nd : isDg o = false := by
      unfold begT at h1
      unfold isDg
      simp [tmarks] at h1 ⊢
      omega
    have n34 : o ≠ 34 := fun z => by subst z; exact absurd h1 (by decide)
    have n35 : o ≠ 35 := fun z => by subst z; exact absurd h1 (by decide)
    have n124 : o ≠ 124 := fun z => by subst z; exact absurd h1 (by decide)
    unfold atomOf
    rw [if_neg n34, if_neg n35, if_neg n124, if_neg (by rw [nd]; decide), if_pos h1]
  have st : sxTake s o = (true, [], { s with t := .tok [o] }) := (take_no hn o).trans (mark_atom ea hv)
  obtain ⟨pl, r1⟩ := runs_rn (s := { s with t := .tok [o], pl := s.pl + 1 }) (go r [o] h2 (by simpa [Nat.add_comm] using h3)) rfl hl
  refine ⟨pl, ?_⟩
  have e : Sprd [] (o :: r).length [] = [[]] ++ Nils r := by
    cases r with
    | nil => rfl
    | cons c r =>
      show [] :: (List.replicate r.length [] ++ [[]]) = [] :: List.replicate (r.length + 1) []
      rw [List.replicate_succ']
  rw [e]
  show Runs s ([o] ++ r) _ _
  exact (Runs.one (ok_no hn) hl (calm_no hn) st).app r1
/-! what is told one octet late -/
def Late (s u : Sx) (late : List Ev) : Prop := (late = [] ∧ s = u ∧ aNo s.t = true) ∨ ∃ os, s.t = .tok os ∧ os.length < sizeLine ∧ late = [.lf "bytes" [kd os]] ∧ u = sxEnd { s with t := .no }
theorem Late.no {s u : Sx} {late : List Ev} (h : Late s u late) : aNo u.t = true := by
  rcases h with ⟨_, rfl, h⟩ | ⟨os, _, _, _, rfl⟩
  · exact h
  · rfl
theorem Runs.late {s u t : Sx} {late r : List Ev} {o : Int} {os : List Int} {rs : List (List Ev)} (h : Late s u late) (hg : late = [] ∨ goT o = false) (hr : Runs u (o :: os) (r :: rs) t) : Runs s (o :: os) ((late ++ r) :: rs) t := by
  rcases h with ⟨rfl, rfl, hn⟩ | ⟨ps, ht, hp, rfl, rfl⟩
  · exact hr
  · have hg := hg.resolve_left fun z => by cases z
    have e1 : aTake s.t o = (false, .tok ps) := by
      rw [ht]
      exact if_neg (by rw [hg]; decide)
    have eg : sxGo s o = (false, [.lf "bytes" [kd ps]], sxEnd { s with t := .no }) := by
      unfold sxGo
      rw [if_neg (fun z => by rw [ht] at z; exact Bool.noConfusion z), e1, if_neg (fun z => by cases z.1)]
      rfl
    have e2 := take_no (s := sxEnd { s with t := .no }) rfl o
    have e3 : sxTake s o = ((sxTake (sxEnd { s with t := .no }) o).1, [.lf "bytes" [kd ps]] ++ (sxTake (sxEnd { s with t := .no }) o).2.1, (sxTake (sxEnd { s with t := .no }) o).2.2) := by
      rw [e2]
      unfold sxTake
      rw [eg, if_neg (fun z => Bool.noConfusion z)]
    obtain ⟨⟨_, hl, _, hok⟩, hr1, hr2⟩ := hr
    refine ⟨⟨by rw [ht]; exact hp, hl, fun _ _ => by rw [e1]; rfl, by rw [e3]; exact hok⟩, by rw [e3, ← hr1], ?_⟩
    have e4 : sxStep s o = sxStep (sxEnd { s with t := .no }) o := by
      unfold sxStep
      rw [e3]
    rw [e4]
    exact hr2
/-! the schedule of the law -/
abbrev Tk3 : Type := List Int × Option Ev × Bool
def rowFix (late : List Ev) : List Int → List Int
  | [] => []
  | o :: r => if late ≠ [] ∧ goT o = true then 32 :: o :: r else o :: r
def lateN (late : List Ev) (t : Tk3) : List Ev := if t.1 = [] then late else if t.2.2 = true then t.2.1.toList else []
def evN (t : Tk3) : List Ev := if t.2.2 = true then [] else t.2.1.toList
def sched : List Ev → List Tk3 → List Int × List (List Ev) × List Ev
  | late, [] => ([], [], late)
  | late, t :: ts => (rowFix late t.1 ++ (sched (lateN late t) ts).1, Sprd late (rowFix late t.1).length (evN t) ++ (sched (lateN late t) ts).2.1, (sched (lateN late t) ts).2.2)
theorem sched_app : ∀ (a b : List Tk3) (late : List Ev), sched late (a ++ b) = ((sched late a).1 ++ (sched (sched late a).2.2 b).1, (sched late a).2.1 ++ (sched (sched late a).2.2 b).2.1, (sched (sched late a).2.2 b).2.2)
  | [], b, late => rfl
  | t :: a, b, late => by
    show (rowFix late t.1 ++ (sched (lateN late t) (a ++ b)).1, Sprd late (rowFix late t.1).length (evN t) ++ (sched (lateN late t) (a ++ b)).2.1, (sched (lateN late t) (a ++ b)).2.2) = _
    rw [sched_app a b (lateN late t)]
    show (_ ++ (_ ++ _), _ ++ (_ ++ _), _) = ((_ ++ _) ++ _, (_ ++ _) ++ _, _)
    rw [List.append_assoc, List.append_assoc]
    rfl
/-- from one place to another, whatever was late -/
def Go (ts : List Tk3) (v v' : Bool) (lv lv' : List Lv) : Prop := ∀ s u late, Late s u late → u.ov = v → u.lv = lv → ∃ s' u', Runs s (sched late ts).1 (sched late ts).2.1 s' ∧ Late s' u' (sched late ts).2.2 ∧ u'.ov = v' ∧ u'.lv = lv'
theorem Go.app {a b : List Tk3} {v1 v2 v3 : Bool} {l1 l2 l3 : List Lv} (h1 : Go a v1 v2 l1 l2) (h2 : Go b v2 v3 l2 l3) : Go (a ++ b) v1 v3 l1 l3 := fun s u late hl hv hlv => by
  obtain ⟨s', u', r1, q1, q2, q3⟩ := h1 s u late hl hv hlv
  obtain ⟨s2, u2, r2, p1, p2, p3⟩ := h2 s' u' _ q1 q2 q3
  rw [sched_app]
  exact ⟨s2, u2, r1.app r2, p1, p2, p3⟩
theorem Go.nil {v : Bool} {lv : List Lv} : Go [] v v lv lv := fun s u late hl hv hlv => ⟨s, u, rfl, hl, hv, hlv⟩
theorem fix_len (late : List Ev) (row : List Int) : (rowFix late row).length ≤ row.length + 1 := by
  cases row with
  | nil => exact Nat.zero_le _
  | cons o r =>
    show (if late ≠ [] ∧ goT o = true then 32 :: o :: r else o :: r).length ≤ _
    split <;> simp
theorem mark_blank {s : Sx} {o : Int} (h : o ∈ wsp) : sxMark s o = (true, [], s) := if_pos h
theorem wsp_go {o : Int} (h : o ∈ wsp) : goT o = false := by
  simp [wsp] at h
  rcases h with e | e | e | e | e | e <;> subst e <;> decide
theorem run_blanks : ∀ (bs : List Int) (s : Sx), (∀ o ∈ bs, o ∈ wsp) → aNo s.t = true → s.lv.length ≤ 24 → ∃ pl, Runs s bs (Nils bs) { s with pl := pl }
  | [], s, _, _, _ => ⟨s.pl, rfl⟩
  | o :: bs, s, hb, hn, hl => by
    obtain ⟨pl, r⟩ := run_blanks bs { s with pl := s.pl + 1 } (fun x hx => hb x (List.mem_cons_of_mem _ hx)) hn hl
    refine ⟨pl, ?_⟩
    show Runs s ([o] ++ bs) ([[]] ++ Nils bs) _
    exact (Runs.one (ok_no hn) hl (calm_no hn) ((take_no hn o).trans (mark_blank (hb o (by simp))))).app r
theorem sprd_nil (n : Nat) : Sprd [] n [] = List.replicate n [] := by
  match n with
  | 0 => rfl
  | 1 => rfl
  | n + 2 =>
    show [] :: (List.replicate n [] ++ [[]]) = _
    rw [← List.replicate_succ']
    rfl
/-- a row that begins with no octet of a token, or behind nothing late -/
theorem sprd_late {late e : List Ev} {n : Nat} (h : n ≠ 0) : ∃ rs, Sprd [] n e = (Sprd [] n e).head! :: rs ∧ Sprd late n e = (late ++ (Sprd [] n e).head!) :: rs := by
  match n, h with
  | 1, _ => exact ⟨[], rfl, rfl⟩
  | n + 2, _ => exact ⟨_, rfl, by show late :: _ = (late ++ []) :: _; rw [List.append_nil]⟩
theorem Runs.lateS {s u t : Sx} {late e : List Ev} {o : Int} {os : List Int} (h : Late s u late) (hg : late = [] ∨ goT o = false) (hr : Runs u (o :: os) (Sprd [] (o :: os).length e) t) : Runs s (o :: os) (Sprd late (o :: os).length e) t := by
  obtain ⟨rs, e1, e2⟩ := sprd_late (late := late) (e := e) (n := (o :: os).length) (by simp)
  rw [e1] at hr
  rw [e2]
  exact Runs.late h hg hr
theorem go_blank {bs : List Int} {v : Bool} {lv : List Lv} (hb : ∀ o ∈ bs, o ∈ wsp) (hl : lv.length ≤ 24) : Go [(bs, none, false)] v v lv lv := fun s u late h hv hlv => by
  cases bs with
  | nil => exact ⟨s, u, rfl, h, hv, hlv⟩
  | cons o bs =>
    have hg := wsp_go (hb o (by simp))
    have ef : rowFix late (o :: bs) = o :: bs := if_neg fun z => by rw [hg] at z; cases z.2
    obtain ⟨pl, r⟩ := run_blanks (o :: bs) u hb h.no (by rw [hlv]; exact hl)
    have r1 : Runs s (o :: bs) (Sprd late (o :: bs).length []) { u with pl := pl } := Runs.lateS h (.inr hg) (by rw [sprd_nil]; exact r)
    have es : sched late [(o :: bs, none, false)] = (o :: bs, Sprd late (o :: bs).length [], []) := by
      show (rowFix late (o :: bs) ++ [], Sprd late (rowFix late (o :: bs)).length [] ++ [], []) = _
      rw [ef, List.append_nil, List.append_nil]
    rw [es]
    exact ⟨_, { u with pl := pl }, r1, .inl ⟨rfl, rfl, h.no⟩, hv, hlv⟩
theorem go_open {lv : List Lv} (hl : lv.length < 24) : Go [([40], some (.op false), false)] false false lv (⟨false, []⟩ :: lv) := fun s u late h hv hlv => by
  have hg : goT 40 = false := by decide
  have es : sched late [([40], some (.op false), false)] = ([40], Sprd late 1 [.op false], []) := by
    show (rowFix late [40] ++ [], Sprd late (rowFix late [40]).length _ ++ [], []) = _
    rw [show rowFix late [40] = [40] from if_neg fun z => by cases z.2]
    rfl
  rw [es]
  have st : sxTake u 40 = (true, [.op false], { u with lv := ⟨false, []⟩ :: u.lv }) := by
    rw [take_no h.no]
    unfold sxMark
    rw [if_neg (by decide), if_neg (by rw [hv]; decide), if_pos rfl, if_neg (by rw [hlv]; omega)]
  have r := Runs.one (ok_no h.no) (by rw [hlv]; omega) (calm_no h.no) st
  exact ⟨_, { u with lv := ⟨false, []⟩ :: u.lv, pl := u.pl + 1 }, Runs.lateS (e := [.op false]) h (.inr hg) r, .inl ⟨rfl, rfl, h.no⟩, hv, by rw [← hlv]⟩
theorem go_close {l : Lv} {lv : List Lv} (hl : lv.length < 24) : Go [([41], some .cl, false)] false lv.isEmpty (l :: lv) lv := fun s u late h hv hlv => by
  have hg : goT 41 = false := by decide
  have es : sched late [([41], some .cl, false)] = ([41], Sprd late 1 [.cl], []) := by
    show (rowFix late [41] ++ [], Sprd late (rowFix late [41]).length _ ++ [], []) = _
    rw [show rowFix late [41] = [41] from if_neg fun z => by cases z.2]
    rfl
  rw [es]
  have st : sxTake u 41 = (true, [.cl], sxEnd { u with lv := lv }) := by
    rw [take_no h.no]
    unfold sxMark sxClose
    rw [if_neg (by decide), if_neg (by rw [hv]; decide), if_neg (by decide), if_pos rfl, hlv]
  have r := Runs.one (ok_no h.no) (by rw [hlv]; exact hl) (calm_no h.no) st
  exact ⟨_, { (sxEnd { u with lv := lv }) with pl := u.pl + 1 }, Runs.lateS (e := [.cl]) h (.inr hg) r, .inl ⟨rfl, rfl, h.no⟩, rfl, rfl⟩
/-- an atom: a row, or a token -/
def AtomW (os row : List Int) (tok : Bool) : Prop := if tok = true then row = os ∧ TokW os else RowW os row
theorem go_space {s u : Sx} {late : List Ev} (h : Late s u late) (hl : u.lv.length ≤ 24) : Runs s [32] [late] { u with pl := u.pl + 1 } := by
  have r := Runs.one (o := 32) (ok_no h.no) hl (calm_no h.no) ((take_no h.no 32).trans (mark_blank (by decide)))
  have := Runs.late h (.inr (by decide)) r
  rw [List.append_nil] at this
  exact this
theorem sprd_step {late e : List Ev} {n : Nat} (h : n ≠ 0) : Sprd late (n + 1) e = [late] ++ Sprd [] n e := by
  match n, h with
  | 1, _ => rfl
  | n + 2, _ =>
    show late :: (List.replicate (n + 1) [] ++ [e]) = late :: ([] :: (List.replicate n [] ++ [e]))
    rw [List.replicate_succ]
    rfl
theorem go_atom {os row : List Int} {tok : Bool} {lv : List Lv} (w : AtomW os row tok) (hl : lv.length ≤ 24) : Go [(row, some (.lf "bytes" [kd os]), tok)] false lv.isEmpty lv lv := fun s u late h hv hlv => by
  /- the row itself, behind nothing late -/
  have row0 : row ≠ [] ∧ ∀ u : Sx, aNo u.t = true → u.ov = false → u.lv = lv → ∃ s' u', Runs u row (Sprd [] row.length (evN (row, some (.lf "bytes" [kd os]), tok))) s' ∧ Late s' u' (lateN [] (row, some (.lf "bytes" [kd os]), tok)) ∧ u'.ov = lv.isEmpty ∧ u'.lv = lv := by
    unfold AtomW at w
    cases tok with
    | true =>
      obtain ⟨rfl, w⟩ := (show row = os ∧ TokW os from w)
      have ne : row ≠ [] := by
        obtain ⟨o, r, e, _⟩ := w
        rw [e]
        simp
      refine ⟨ne, fun u hn hv hlv => ?_⟩
      obtain ⟨pl, r⟩ := run_tok w hn hv (by rw [hlv]; exact hl)
      refine ⟨_, sxEnd { u with t := .no, pl := pl }, r, ?_, by show u.lv.isEmpty = _; rw [hlv], hlv⟩
      rw [show lateN [] (row, some (.lf "bytes" [kd row]), true) = [.lf "bytes" [kd row]] from by (unfold lateN; rw [if_neg ne, if_pos rfl]; rfl)]
      exact .inr ⟨row, rfl, w.choose_spec.choose_spec.2.2.2, rfl, rfl⟩
    | false =>
      have w : RowW os row := w
      have ne : row ≠ [] := by
        obtain ⟨o, r, c, _, _, _, e, _⟩ := w
        rw [e]
        simp
      refine ⟨ne, fun u hn hv hlv => ?_⟩
      obtain ⟨pl, r⟩ := run_row w hn hv (by rw [hlv]; exact hl)
      refine ⟨_, { (sxEnd { u with t := .no }) with pl := pl }, r, ?_, by show u.lv.isEmpty = _; rw [hlv], hlv⟩
      rw [show lateN [] (row, some (.lf "bytes" [kd os]), false) = [] from by (unfold lateN; rw [if_neg ne, if_neg (fun z => Bool.noConfusion z)])]
      exact .inl ⟨rfl, rfl, rfl⟩
  obtain ⟨ne, go⟩ := row0
  have es : sched late [(row, some (.lf "bytes" [kd os]), tok)] = (rowFix late row, Sprd late (rowFix late row).length (evN (row, some (.lf "bytes" [kd os]), tok)), lateN [] (row, some (.lf "bytes" [kd os]), tok)) := by
    show (rowFix late row ++ [], Sprd late (rowFix late row).length _ ++ [], lateN late _) = _
    rw [List.append_nil, List.append_nil]
    unfold lateN
    rw [if_neg ne, if_neg ne]
  rw [es]
  clear es
  cases row with
  | nil => exact absurd rfl ne
  | cons o r =>
    by_cases c : late ≠ [] ∧ goT o = true
    · rw [show rowFix late (o :: r) = 32 :: o :: r from if_pos c]
      have r1 := go_space h (by rw [hlv]; exact hl)
      obtain ⟨s2, u2, r2, p1, p2, p3⟩ := go { u with pl := u.pl + 1 } h.no hv hlv
      refine ⟨s2, u2, ?_, p1, p2, p3⟩
      show Runs s ([32] ++ (o :: r)) (Sprd late ((o :: r).length + 1) _) s2
      rw [sprd_step (by simp)]
      exact r1.app r2
    · rw [show rowFix late (o :: r) = o :: r from if_neg c]
      obtain ⟨s2, u2, r2, p1, p2, p3⟩ := go u h.no hv hlv
      refine ⟨s2, u2, Runs.lateS h ?_ r2, p1, p2, p3⟩
      by_cases c1 : late = []
      · exact .inl c1
      · cases hg : goT o with
        | false => exact .inr rfl
        | true => exact absurd ⟨c1, hg⟩ c

/-! ### the digits of a number, as texts -/
section
open PySem.NumText
def dg (n : Nat) : List Nat := (Nat.toDigits 10 n).map Char.toNat
theorem str_dg (n : Nat) : Str.ofString (toString ((n : Nat) : Int)) = S (dg n) := (S_tl _).symm.trans (congrArg S (PySem.W.KIN.signs_num n))
theorem str_dgI {i : Int} (h : 0 ≤ i) : Str.ofString (toString i) = S (dg i.toNat) := by
  have e : ((i.toNat : Nat) : Int) = i := Int.toNat_of_nonneg h
  rw [← str_dg, e]
theorem dgc (d : Nat) (h : d < 10) : (Nat.digitChar d).toNat = 48 + d := by
  revert d
  decide
theorem dg_lt {d : Nat} (h : d < 10) : dg d = [48 + d] := by
  unfold dg
  rw [Nat.toDigits_of_lt_base h]
  show [(Nat.digitChar d).toNat] = _
  rw [dgc d h]
theorem dg_step {n : Nat} (h : 10 ≤ n) : dg n = dg (n / 10) ++ [48 + n % 10] := by
  have hm : n % 10 < 10 := Nat.mod_lt n (by decide)
  have t : Nat.toDigits 10 (n / 10) ++ Nat.toDigits 10 (n % 10) = Nat.toDigits 10 (10 * (n / 10) + n % 10) := Nat.toDigits_append_toDigits (by decide) (by omega) hm
  rw [Nat.div_add_mod] at t
  unfold dg
  rw [← t, List.map_append, Nat.toDigits_of_lt_base hm]
  show _ ++ [(Nat.digitChar (n % 10)).toNat] = _
  rw [dgc _ hm]
theorem dg_val (n : Nat) : digitsVal (dg n) = n := PySem.W.KIN.val_back n
theorem dg_all (n : Nat) : AllDigits (dg n) := by
  induction n using Nat.strongRecOn with
  | _ n ih =>
    by_cases h : n < 10
    · rw [dg_lt h]
      intro c hc
      have e : c = 48 + n := by simpa using hc
      omega
    · rw [dg_step (by omega)]
      intro c hc
      rcases List.mem_append.mp hc with hc | hc
      · exact ih (n / 10) (by omega) c hc
      · have e : c = 48 + n % 10 := by simpa using hc
        omega
theorem dg_pos (n : Nat) : 0 < (dg n).length := by
  by_cases h : n < 10
  · rw [dg_lt h]
    exact Nat.one_pos
  · rw [dg_step (by omega), List.length_append]
    show 0 < _ + 1
    omega
theorem dg_ne (n : Nat) : dg n ≠ [] := fun e => by
  have := dg_pos n
  rw [e] at this
  cases this
theorem dg_len : ∀ (k n : Nat), n < 10 ^ (k + 1) → (dg n).length ≤ k + 1
  | 0, n, h => by
    rw [dg_lt (by simpa using h)]
    exact Nat.le_refl _
  | k + 1, n, h => by
    by_cases c : n < 10
    · rw [dg_lt c]
      show 1 ≤ _
      omega
    · rw [dg_step (by omega), List.length_append]
      have := dg_len k (n / 10) (by rw [Nat.pow_succ] at h; omega)
      show _ + 1 ≤ _
      omega
theorem dg_lenP {k n : Nat} (h : n < 10 ^ k) : (dg n).length ≤ k + 1 := dg_len k n (Nat.lt_of_lt_of_le h (Nat.pow_le_pow_right (by decide) (Nat.le_succ k)))
/-- k digits of r -/
def pad : Nat → Nat → List Nat
  | 0, _ => []
  | k + 1, r => pad k (r / 10) ++ [48 + r % 10]
theorem pad_len : ∀ (k r : Nat), (pad k r).length = k
  | 0, _ => rfl
  | k + 1, r => by
    show (pad k (r / 10) ++ [48 + r % 10]).length = _
    rw [List.length_append, pad_len k]
    rfl
theorem pad_zero : ∀ k : Nat, pad k 0 = List.replicate k 48
  | 0 => rfl
  | k + 1 => by
    show pad k 0 ++ [48] = _
    rw [pad_zero k, List.replicate_succ']
theorem dg_pad : ∀ (k q r : Nat), 0 < q → r < 10 ^ k → dg (q * 10 ^ k + r) = dg q ++ pad k r
  | 0, q, r, _, h => by
    have e : r = 0 := by
      have : (10 : Nat) ^ 0 = 1 := rfl
      omega
    rw [e, Nat.pow_zero, Nat.mul_one, Nat.add_zero]
    exact (List.append_nil _).symm
  | k + 1, q, r, hq, h => by
    have hp : 0 < 10 ^ k := Nat.pow_pos (by decide)
    have e10 : q * 10 ^ (k + 1) = 10 * (q * 10 ^ k) := by
      rw [Nat.pow_succ, ← Nat.mul_assoc, Nat.mul_comm]
    have hge : 1 ≤ q * 10 ^ k := Nat.mul_pos hq hp
    have hr : r / 10 < 10 ^ k := by
      rw [Nat.pow_succ] at h
      omega
    rw [e10, dg_step (by omega), show (10 * (q * 10 ^ k) + r) / 10 = q * 10 ^ k + r / 10 by omega, show (10 * (q * 10 ^ k) + r) % 10 = r % 10 by omega, dg_pad k q (r / 10) hq hr, List.append_assoc]
    rfl
theorem zf : ∀ (k r : Nat), r < 10 ^ (k + 1) → List.replicate (k + 1 - (dg r).length) 48 ++ dg r = pad (k + 1) r
  | 0, r, h => by
    have h : r < 10 := by simpa using h
    rw [dg_lt h]
    show [48 + r] = [48 + r % 10]
    rw [Nat.mod_eq_of_lt h]
  | k + 1, r, h => by
    by_cases c : r < 10
    · rw [dg_lt c]
      show List.replicate (k + 1 + 1 - 1) 48 ++ [48 + r] = pad (k + 1) (r / 10) ++ [48 + r % 10]
      rw [Nat.div_eq_of_lt c, Nat.mod_eq_of_lt c, pad_zero]
      rfl
    · have h2 : r / 10 < 10 ^ (k + 1) := by
        rw [Nat.pow_succ] at h
        omega
      rw [dg_step (by omega), List.length_append]
      show List.replicate (k + 1 + 1 - (_ + 1)) 48 ++ (_ ++ _) = pad (k + 1) (r / 10) ++ [48 + r % 10]
      rw [Nat.add_sub_add_right, ← List.append_assoc, zf k (r / 10) h2]
theorem dg_first (n : Nat) : ∃ c r, dg n = c :: r ∧ 48 ≤ c ∧ c ≤ 57 := by
  cases e : dg n with
  | nil => exact absurd e (dg_ne n)
  | cons c r =>
    have h := dg_all n c (by rw [e]; exact List.mem_cons_self ..)
    exact ⟨c, r, rfl, h⟩
theorem zfill_dg {k r : Nat} (h : r < 10 ^ (k + 1)) : Txt.zfill (S (dg r)) ((k + 1 : Nat) : Int) = S (pad (k + 1) r) := by
  have hl : (S (dg r)).length = (dg r).length := S_len _
  have hk := dg_len k r h
  rw [← zf k r h]
  unfold Txt.zfill
  rw [hl]
  by_cases c : (((k + 1 : Nat) : Int) ≤ ((dg r).length : Int))
  · rw [if_pos c, show k + 1 - (dg r).length = 0 by omega]
    rfl
  · rw [if_neg c]
    obtain ⟨d, t, e, h1, h2⟩ := dg_first r
    have e0 : (S (dg r)).cps[0]? = some d := by
      rw [e]
      rfl
    have e1 : zfilled (S (dg r)) (((k + 1 : Nat) : Int).toNat - (dg r).length) = Builtin.Str.padded (S (dg r)) (((k + 1 : Nat) : Int).toNat - (dg r).length) 0 48 := by
      unfold zfilled
      rw [e0]
      split
      · rename_i q
        cases q
        omega
      · rename_i q
        cases q
        omega
      · rfl
    rw [e1]
    unfold Builtin.Str.padded S
    rw [Int.toNat_natCast]
    congr 1
    apply Array.ext'
    simp
theorem dval_rep (d : List Nat) : ∀ k : Nat, digitsVal (d ++ List.replicate k 48) = digitsVal d * 10 ^ k
  | 0 => by simp
  | k + 1 => by
    rw [List.replicate_succ', ← List.append_assoc, digitsVal_snoc, dval_rep d k, Nat.pow_succ, Nat.sub_self, Nat.add_zero, Nat.mul_assoc]
theorem dval_zeros (d : List Nat) : ∀ k : Nat, digitsVal (List.replicate k 48 ++ d) = digitsVal d
  | 0 => rfl
  | k + 1 => by
    rw [List.replicate_succ, List.cons_append, digitsVal_zero]
    exact dval_zeros d k
theorem all_rep (k : Nat) : AllDigits (List.replicate k 48) := fun c hc => by
  have e := List.eq_of_mem_replicate hc
  omega
theorem all_app {a b : List Nat} (h1 : AllDigits a) (h2 : AllDigits b) : AllDigits (a ++ b) := fun c hc => by
  rcases List.mem_append.mp hc with h | h
  · exact h1 c h
  · exact h2 c h
/-- int(text) of a text of digits, with a sign -/
theorem int_dig {d : List Nat} (h : AllDigits d) (h1 : d ≠ []) (h2 : d.length ≤ 4300) : intText? (S d) = some ((digitsVal d : Nat) : Int) :=
  intText_digits (x := S d) h h1 (by rw [S_len]; exact h2)
theorem int_neg {d : List Nat} (h : AllDigits d) (h1 : d ≠ []) (h2 : d.length < 4300) : intText? (S (45 :: d)) = some (-((digitsVal d : Nat) : Int)) :=
  intText_neg (x := S (45 :: d)) rfl h h1 (by rw [S_len]; exact h2)
theorem int_plus {d : List Nat} (h : AllDigits d) (h1 : d ≠ []) (h2 : d.length < 4300) : intText? (S (43 :: d)) = some ((digitsVal d : Nat) : Int) := by
  have hs : ∀ c ∈ (S (43 :: d)).cps.toList, 33 ≤ c ∧ c < 128 := fun c hc => by
    have hc : c ∈ 43 :: d := hc
    rcases List.mem_cons.mp hc with e | e
    · omega
    · have := h c e
      omega
  have e1 : numTextOf (S (43 :: d)) = 43 :: d := by
    refine if_pos ?_
    rw [← Array.all_toList, List.all_eq_true]
    intro c hc
    exact decide_eq_true (hs c hc).2
  have e2 : numSeenOf (S (43 :: d)) = 43 :: d := by
    show (numTextOf (S (43 :: d))).takeWhile _ = _
    rw [e1]
    refine takeWhile_all fun c hc => ?_
    have := hs c hc
    exact bne_iff_ne.mpr (by omega)
  unfold intText?
  rw [e1, e2, if_pos (beq_self_eq_true _)]
  have e3 : (43 :: d).dropWhile blank = 43 :: d := dropWhile_of (by decide)
  have ec : core (43 :: d) = d := by
    unfold core
    rw [e3]
    show (d.reverse.dropWhile blank).reverse = d
    rw [dropWhile_digits h.reverse, List.reverse_reverse]
  rw [ec, e3, digits_of h h1]
  have hsz := push_size d #[]
  have hv := push_foldl d #[]
  show (if _ ≤ 4300 then some (worth false _) else none) = _
  rw [if_pos (by rw [hsz]; simp only [Array.size_empty]; omega)]
  unfold worth digitsVal
  rw [hv]
  rfl
/-- find of one sign -/
theorem find_none {l : List Nat} {c : Nat} (h : c ∉ l) : Txt.find (S l) (S [c]) = -1 := by
  rcases PyProof.Rows.find_whole (S l) (S [c]) with ⟨e, _⟩ | ⟨i, e, ⟨h1, h2⟩, _⟩
  · exact e
  · exfalso
    unfold Builtin.Str.subAt at h2
    have h3 := congrArg Array.toList (eq_of_beq h2)
    have h4 : ((l.drop i).take 1) = [c] := by
      simpa [S, Str.length] using h3
    have h5 : c ∈ (l.drop i).take 1 := by
      rw [h4]
      exact List.mem_singleton.mpr rfl
    exact h (List.mem_of_mem_drop (List.mem_of_mem_take h5))
theorem find_at {l r : List Nat} {c : Nat} (h : c ∉ l) : Txt.find (S (l ++ c :: r)) (S [c]) = (l.length : Int) := by
  have at_iff : ∀ i : Nat, StrLaws.At (S (l ++ c :: r)) (S [c]) (S (l ++ c :: r)).length i ↔ (l ++ c :: r)[i]? = some c := fun i => by
    unfold StrLaws.At Builtin.Str.subAt
    rw [beq_iff_eq, S_len, S_len]
    constructor
    · rintro ⟨h1, h2⟩
      have h3 := congrArg Array.toList h2
      have h4 : ((l ++ c :: r).drop i).take 1 = [c] := by
        simpa [S, Str.length] using h3
      have h5 := congrArg (fun z : List Nat => z[0]?) h4
      simpa [List.getElem?_take, List.getElem?_drop] using h5
    · intro h1
      obtain ⟨hi, e⟩ := List.getElem?_eq_some_iff.mp h1
      refine ⟨hi, ?_⟩
      apply Array.ext'
      have h4 : ((l ++ c :: r).drop i).take 1 = [c] := by
        rw [List.drop_eq_getElem_cons hi, e]
        rfl
      simpa [S, Str.length] using h4
  rcases PyProof.Rows.find_whole (S (l ++ c :: r)) (S [c]) with ⟨_, hn⟩ | ⟨i, e, h1, h2⟩
  · exact absurd ((at_iff l.length).mpr (by simp)) (hn l.length)
  · rw [e]
    have h1 := (at_iff i).mp h1
    have h3 : i = l.length := by
      rcases Nat.lt_trichotomy i l.length with q | q | q
      · rw [List.getElem?_append_left q] at h1
        exact absurd (List.mem_of_getElem? h1) h
      · exact q
      · exact absurd ((at_iff l.length).mpr (by simp)) (h2 _ q)
    rw [h3]
end

/-! ### texts: str and int of great numbers, a sign many times, join of a row turned round -/
section
open PyProof.Rows
theorem noDig {K : Frg} {h : Heap} (X : K.In h) (e : DigK K) : h.NoDigits := by
  have G := Heap.Ns.of_isNs (PySem.W.isNs_of_in X e.1)
  exact ⟨_, G, PySem.W.ns_none_of X G e.2⟩
theorem call_strW {X : Cx} (hc : X.calm = true) (e : DigK X.K) : CallR X (.type "str") (fun xs H Q => ∃ i : Int, xs = [.int i] ∧ i.natAbs < 10 ^ 4300 ∧ Q (.str (Str.ofString (toString i))) H) := by
  intro pins s σ H xs us Q I r h
  obtain ⟨i, rfl, hz, q⟩ := h
  obtain ⟨u, rfl, t, rfl⟩ := vals1 r
  exact str_of_int_or (I.ok.hd hc) (noDig I.kIn e) (fun _ => ⟨.str _, H, I.tok _, ⟨_, rfl⟩, q⟩) fun h => absurd h (by generalize 10 ^ 4300 = P at *; omega)
theorem op_repS {X : Cx} : OpR X (binaryOp .Mult) (fun x y H Q => ∃ (c : Nat) (n : Int), x = .str (S [c]) ∧ y = .int n ∧ -100000 ≤ n ∧ n ≤ 100000 ∧ Q (.str (S (List.replicate n.toNat c))) H) := by
  intro pins s σ H x y v u Q I rx ry h
  obtain ⟨c, n, rfl, rfl, h0, h1, q⟩ := h
  obtain ⟨t, rfl⟩ := rx
  obtain ⟨t', rfl⟩ := ry
  refine PySem.SB.mul (mulOk_of 1 100000 (Nat.le_refl 1) (by omega) (by omega) (by decide) (by decide)) fun t' k => ⟨.str _, H, I.tok _, ⟨_, rfl⟩, ?_⟩
  have e : Txt.mul (S [c]) n = S (List.replicate n.toNat c) := by
    unfold Txt.mul
    by_cases c1 : n < 1
    · rw [if_pos c1, show n.toNat = 0 by omega]
      rfl
    · rw [if_neg c1]
      by_cases c2 : n = 1
      · subst c2
        rfl
      · have b : (n == 1 || (S [c]).length == 0) = false := by
          have : (n == 1) = false := by simpa using c2
          rw [this]
          rfl
        rw [b, if_neg Bool.false_ne_true]
        have g : ∀ (k : Nat) (a : Array Nat), (List.replicate k (S [c]).cps).foldl (· ++ ·) a = a ++ (List.replicate k c).toArray := by
          intro k
          induction k with
          | zero => intro a; simp
          | succ k ih =>
            intro a
            rw [List.replicate_succ, List.foldl_cons, ih, List.replicate_succ]
            apply Array.ext'
            simp [S]
        rw [g]
        simp [S]
  rw [e]
  exact q
end
/-! readings -/
section
variable {σ : St} {H : Hp} {Q : VK} {K : Frg}
theorem r_addS {a b : List Nat} (hl : a.length + b.length ≤ 1000000) (h : Q (.str (S (a ++ b))) H) : ∃ i j, V.str (S a) = .str i ∧ V.str (S b) = .str j ∧ i.length + j.length ≤ sizeLine ∧ Q (.str (i ++ j)) H :=
  ⟨_, _, rfl, rfl, by rw [S_len, S_len, sizeLine_eq]; omega, by rw [S_cat]; exact h⟩
theorem r_ixS {a : List Nat} {i c : Nat} (hl : a.length ≤ 1000000) (e : a[i]? = some c) (h : Q (.str (S [c])) H) : rIxS (.str (S a)) (.int (i : Int)) H Q :=
  ⟨_, _, c, rfl, rfl, by rw [S_len, sizeLine_eq]; omega, atI_nat e, h⟩
theorem r_slS {a b : List Nat} {lo hi : Option Int} (hl : a.length ≤ 1000000) (e : cutS (S a) lo hi = S b) (h : Q (.str (S b)) H) : rSlS (.str (S a)) lo hi H Q :=
  ⟨_, rfl, by rw [S_len, sizeLine_eq]; omega, by rw [e]; exact h⟩
theorem cutS_from {a : List Nat} {i : Int} (h : 0 ≤ i) : cutS (S a) (some i) none = S (a.drop i.toNat) := by
  rw [C8.cutS_slice]
  exact slice_from h
theorem cutS_to {a : List Nat} {i : Int} (h : 0 ≤ i) : cutS (S a) none (some i) = S (a.take i.toNat) := by
  rw [C8.cutS_slice]
  exact slice_to h
theorem r_lenS {d : List Nat} {R : Str → Prop} (hl : d.length ≤ 1000000) (h : R (S d)) : ∃ z, [V.str (S d)] = [V.str z] ∧ z.length ≤ sizeLine ∧ R z :=
  ⟨_, rfl, by rw [S_len, sizeLine_eq]; omega, h⟩
theorem r_add {x y : Str} {a b : List Nat} {R : Str → Str → Prop} (ex : x = S a) (ey : y = S b) (hl : a.length + b.length ≤ 1000000) (h : R (S a) (S b)) : ∃ i j, V.str x = .str i ∧ V.str y = .str j ∧ i.length + j.length ≤ sizeLine ∧ R i j := by
  subst ex ey
  exact ⟨_, _, rfl, rfl, by rw [S_len, S_len, sizeLine_eq]; omega, h⟩
theorem r_rep {x : Str} {n : Int} {c : Nat} {R : Nat → Int → Prop} (ex : x = S [c]) (h0 : -100000 ≤ n) (h1 : n ≤ 100000) (h : R c n) : ∃ (c : Nat) (m : Int), V.str x = .str (S [c]) ∧ V.int n = .int m ∧ -100000 ≤ m ∧ m ≤ 100000 ∧ R c m :=
  ⟨c, n, by rw [ex], rfl, h0, h1, h⟩
theorem r_slF {a : List Nat} {i : Int} (h0 : 0 ≤ i) (hl : a.length ≤ 1000000) (h : Q (.str (S (a.drop i.toNat))) H) : rSlS (.str (S a)) (some i) none H Q := r_slS hl (cutS_from h0) h
theorem r_slT {a : List Nat} {i : Int} (h0 : 0 ≤ i) (hl : a.length ≤ 1000000) (h : Q (.str (S (a.take i.toNat))) H) : rSlS (.str (S a)) none (some i) H Q := r_slS hl (cutS_to h0) h
end

/-! ### base64: the digits, and what they stand for -/
abbrev DIG64 : Str := "ABCDEFGHIJKLMNOPQRSTUVWXYZabcdefghijklmnopqrstuvwxyz0123456789+/"
def digs64 : List Int := [65, 66, 67, 68, 69, 70, 71, 72, 73, 74, 75, 76, 77, 78, 79, 80, 81, 82, 83, 84, 85, 86, 87, 88, 89, 90, 97, 98, 99, 100, 101, 102, 103, 104, 105, 106, 107, 108, 109, 110, 111, 112, 113, 114, 115, 116, 117, 118, 119, 120, 121, 122, 48, 49, 50, 51, 52, 53, 54, 55, 56, 57, 43, 47]
def dg64 (w : Int) : Int := digs64.getD w.toNat 0
theorem dg64_all : ∀ k ∈ List.range 64, worth64 (dg64 (k : Int)) = some (k : Int) ∧ dg64 (k : Int) ≠ 61 ∧ 0 ≤ dg64 (k : Int) ∧ dg64 (k : Int) ≤ 255 := by decide +kernel
theorem dg64_ok {w : Int} (h0 : 0 ≤ w) (h1 : w < 64) : worth64 (dg64 w) = some w ∧ dg64 w ≠ 61 ∧ 0 ≤ dg64 w ∧ dg64 w ≤ 255 := by
  have h := dg64_all w.toNat (List.mem_range.mpr (by omega))
  have e : ((w.toNat : Nat) : Int) = w := by omega
  rw [e] at h
  exact h
def enc64 : List Int → List Int
  | [] => []
  | [a] => [dg64 (a / 4), dg64 (a % 4 * 16), 61, 61]
  | [a, b] => [dg64 (a / 4), dg64 (a % 4 * 16 + b / 16), dg64 (b % 16 * 4), 61]
  | a :: b :: c :: r => dg64 (a / 4) :: dg64 (a % 4 * 16 + b / 16) :: dg64 (b % 16 * 4 + c / 64) :: dg64 (c % 64) :: enc64 r
theorem enc64_app : ∀ (xs ys : List Int), xs.length % 3 = 0 → enc64 (xs ++ ys) = enc64 xs ++ enc64 ys
  | [], ys, _ => rfl
  | [a], ys, h => absurd h (by simp)
  | [a, b], ys, h => absurd h (by simp)
  | a :: b :: c :: r, ys, h => by
    have h : (r.length + 1 + 1 + 1) % 3 = 0 := h
    have q := enc64_app r ys (by omega)
    show dg64 _ :: dg64 _ :: dg64 _ :: dg64 _ :: enc64 (r ++ ys) = dg64 _ :: dg64 _ :: dg64 _ :: dg64 _ :: (enc64 r ++ enc64 ys)
    rw [q]
theorem enc64_len : ∀ (xs : List Int), (enc64 xs).length = (xs.length + 2) / 3 * 4
  | [] => rfl
  | [a] => by show 4 = (1 + 2) / 3 * 4; decide
  | [a, b] => by show 4 = (2 + 2) / 3 * 4; decide
  | a :: b :: c :: r => by
    show (enc64 r).length + 1 + 1 + 1 + 1 = (r.length + 1 + 1 + 1 + 2) / 3 * 4
    rw [enc64_len r]
    omega
/-- the group of three -/
def grp64 (a b c : Int) (n : Nat) : List Int := ([18, 12, 6, 0].map fun s : Nat => dg64 ((a * 65536 + b * 256 + c) / 2 ^ s % 64)).take (n + 1) ++ List.replicate (3 - n) 61
theorem grp3 {a b c : Int} (a0 : 0 ≤ a) (a1 : a < 256) (b0 : 0 ≤ b) (b1 : b < 256) (c0 : 0 ≤ c) (c1 : c < 256) : grp64 a b c 3 = [dg64 (a / 4), dg64 (a % 4 * 16 + b / 16), dg64 (b % 16 * 4 + c / 64), dg64 (c % 64)] := by
  show [dg64 ((a * 65536 + b * 256 + c) / 2 ^ 18 % 64), dg64 ((a * 65536 + b * 256 + c) / 2 ^ 12 % 64), dg64 ((a * 65536 + b * 256 + c) / 2 ^ 6 % 64), dg64 ((a * 65536 + b * 256 + c) / 2 ^ 0 % 64)] = _
  rw [show (a * 65536 + b * 256 + c) / 2 ^ 18 % 64 = a / 4 by omega, show (a * 65536 + b * 256 + c) / 2 ^ 12 % 64 = a % 4 * 16 + b / 16 by omega, show (a * 65536 + b * 256 + c) / 2 ^ 6 % 64 = b % 16 * 4 + c / 64 by omega, show (a * 65536 + b * 256 + c) / 2 ^ 0 % 64 = c % 64 by omega]
theorem grp2 {a b : Int} (a0 : 0 ≤ a) (a1 : a < 256) (b0 : 0 ≤ b) (b1 : b < 256) : grp64 a b 0 2 = enc64 [a, b] := by
  show [dg64 ((a * 65536 + b * 256 + 0) / 2 ^ 18 % 64), dg64 ((a * 65536 + b * 256 + 0) / 2 ^ 12 % 64), dg64 ((a * 65536 + b * 256 + 0) / 2 ^ 6 % 64), 61] = [_, _, _, _]
  rw [show (a * 65536 + b * 256 + 0) / 2 ^ 18 % 64 = a / 4 by omega, show (a * 65536 + b * 256 + 0) / 2 ^ 12 % 64 = a % 4 * 16 + b / 16 by omega, show (a * 65536 + b * 256 + 0) / 2 ^ 6 % 64 = b % 16 * 4 by omega]
theorem grp1 {a : Int} (a0 : 0 ≤ a) (a1 : a < 256) : grp64 a 0 0 1 = enc64 [a] := by
  show [dg64 ((a * 65536 + 0 * 256 + 0) / 2 ^ 18 % 64), dg64 ((a * 65536 + 0 * 256 + 0) / 2 ^ 12 % 64), 61, 61] = [_, _, _, _]
  rw [show (a * 65536 + 0 * 256 + 0) / 2 ^ 18 % 64 = a / 4 by omega, show (a * 65536 + 0 * 256 + 0) / 2 ^ 12 % 64 = a % 4 * 16 by omega]
theorem grp_of (xs : List Int) (h1 : 1 ≤ xs.length) (h3 : xs.length ≤ 3) (hx : ∀ x ∈ xs, 0 ≤ x ∧ x < 256) : ∃ (a b c : Int) (ws : List Int), xs ++ [0, 0] = a :: b :: c :: ws ∧ (0 ≤ a ∧ a < 256) ∧ (0 ≤ b ∧ b < 256) ∧ (0 ≤ c ∧ c < 256) ∧ grp64 a b c xs.length = enc64 xs := by
  rcases xs with _ | ⟨a, _ | ⟨b, _ | ⟨c, _ | ⟨d, r⟩⟩⟩⟩
  · exact absurd h1 (by simp)
  · have q := grp1 (hx a (by simp)).1 (hx a (by simp)).2
    exact ⟨a, 0, 0, [], by simp, hx a (by simp), by decide, by decide, by rw [← q, List.length_singleton]⟩
  · have q := grp2 (hx a (by simp)).1 (hx a (by simp)).2 (hx b (by simp)).1 (hx b (by simp)).2
    exact ⟨a, b, 0, [0], by simp, hx a (by simp), hx b (by simp), by decide, by rw [← q, List.length_cons, List.length_singleton]⟩
  · have q := grp3 (hx a (by simp)).1 (hx a (by simp)).2 (hx b (by simp)).1 (hx b (by simp)).2 (hx c (by simp)).1 (hx c (by simp)).2
    refine ⟨a, b, c, [0, 0], by simp, hx a (by simp), hx b (by simp), hx c (by simp), ?_⟩
    rw [List.length_cons, List.length_cons, List.length_singleton, q]
    rfl
  · exact absurd h3 (by simp)
def gds64 (b : Int) : List Int := [18, 12, 6, 0].map fun s : Nat => dg64 (b / 2 ^ s % 64)
theorem gds_get {b : Int} {i : Nat} {c : Int} (h : ([18, 12, 6, 0] : List Int)[i]? = some c) : 0 ≤ c ∧ (gds64 b)[i]? = some (dg64 (b / 2 ^ c.toNat % 64)) := by
  rcases i with _ | _ | _ | _ | i
  · cases h
    exact ⟨by decide, rfl⟩
  · cases h
    exact ⟨by decide, rfl⟩
  · cases h
    exact ⟨by decide, rfl⟩
  · cases h
    exact ⟨by decide, rfl⟩
  · simp at h
theorem dig_all : ∀ k ∈ List.range 64, atI DIG64.cps.toList (k : Int) = some (dg64 (k : Int)).toNat := by decide +kernel
/-- ord of a digit of the alphabet -/
theorem dig_at {i : Int} (h0 : 0 ≤ i) (h1 : i < 64) : ∃ c : Nat, atI DIG64.cps.toList i = some c ∧ V.int (((⟨#[c]⟩ : Str).cps.getD 0 0 : Nat) : Int) = V.int (dg64 i) := by
  have e : ((i.toNat : Nat) : Int) = i := by omega
  have q := dig_all i.toNat (List.mem_range.mpr (by omega))
  rw [e] at q
  refine ⟨_, q, ?_⟩
  have e2 : (((dg64 i).toNat : Nat) : Int) = dg64 i := by
    have := (dg64_ok h0 h1).2.2.1
    omega
  show V.int (((dg64 i).toNat : Nat) : Int) = _
  rw [e2]
theorem dig_len : DIG64.length ≤ sizeLine := by decide +kernel
theorem enc_step {xs : List Int} {i : Nat} (h : 3 * i ≤ xs.length) : enc64 (xs.take (3 * (i + 1))) = enc64 (xs.take (3 * i)) ++ enc64 ((xs.drop (3 * i)).take 3) := by
  rw [show 3 * (i + 1) = 3 * i + 3 by omega, List.take_add, enc64_app _ _ (by rw [List.length_take]; omega)]

/-! ### the ways to write an atom -/
theorem isDg_of {o : Int} (h1 : 48 ≤ o) (h2 : o ≤ 57) : isDg o = true := by
  unfold isDg
  rw [decide_eq_true h1, decide_eq_true h2]
  rfl
theorem ct_dig0 {o : Int} (h1 : 48 ≤ o) (h2 : o ≤ 57) : ctTake ct0 o = (true, ⟨false, false, [], some (o - 48)⟩) := by
  show ctCount ct0 o = _
  unfold ctCount
  rw [if_neg (fun z => z.2 rfl), if_neg (fun z => z.elim (fun z => by rw [isDg_of h1 h2] at z; cases z) (fun z => by cases z))]
  show (true, Ct.mk false false [] (some ((0 : Int) * 10 + o - 48))) = _
  rw [show (0 : Int) * 10 + o - 48 = o - 48 by omega]
theorem ct_dig {o k : Int} (h1 : 48 ≤ o) (h2 : o ≤ 57) (hk : k ≠ 0) : ctTake ⟨false, false, [], some k⟩ o = (true, ⟨false, false, [], some (k * 10 + o - 48)⟩) := by
  show ctCount ⟨false, false, [], some k⟩ o = _
  unfold ctCount
  rw [if_neg (fun z => by have := z.1; omega), if_neg (fun z => z.elim (fun z => by rw [isDg_of h1 h2] at z; cases z) (fun z => hk (Option.some.inj z)))]
  rfl
theorem ct_colon (k : Int) : ctTake ⟨false, false, [], some k⟩ 58 = (true, ⟨decide (k = 0), true, [], some k⟩) := by
  show ctCount ⟨false, false, [], some k⟩ 58 = _
  unfold ctCount
  rw [if_pos ⟨rfl, fun z => by cases z⟩]
  rfl
theorem at_cnt {s t : Ct} {o : Int} (h : ctTake s o = (true, t)) : aTake (.cnt s) o = (true, .cnt t) := by
  show ((ctTake s o).1, Atm.cnt (ctTake s o).2) = _
  rw [h]
theorem fit_cnt {m : Option Int} : Fit (.cnt ⟨false, false, [], m⟩) := ⟨rfl, ⟨fun z => (by cases z), by show 0 < sizeLine; decide⟩, rfl⟩
theorem atom_dig {o : Int} (h1 : 48 ≤ o) (h2 : o ≤ 57) : atomOf o = some (.cnt ⟨false, false, [], some (o - 48)⟩) := by
  unfold atomOf
  rw [if_neg (by omega), if_neg (by omega), if_neg (by omega), if_pos (isDg_of h1 h2), ct_dig0 h1 h2]
theorem rn_count : ∀ n : Nat, ∃ o rest a0, asc (dg n) = o :: rest ∧ atomOf o = some a0 ∧ Rn a0 rest (.cnt ⟨false, false, [], some (n : Int)⟩) := by
  intro n
  induction n using Nat.strongRecOn with
  | _ n ih =>
    by_cases c : n < 10
    · rw [dg_lt c]
      have h1 : (48 : Int) ≤ Int.ofNat (48 + n) := by show (48 : Int) ≤ ((48 + n : Nat) : Int); omega
      have h2 : Int.ofNat (48 + n) ≤ 57 := by show ((48 + n : Nat) : Int) ≤ 57; omega
      refine ⟨Int.ofNat (48 + n), [], _, rfl, atom_dig h1 h2, ?_⟩
      have e : Int.ofNat (48 + n) - 48 = (n : Int) := by show ((48 + n : Nat) : Int) - 48 = n; omega
      rw [e]
      exact Rn.nil fit_cnt
    · obtain ⟨o, rest, a0, e1, e2, e3⟩ := ih (n / 10) (by omega)
      rw [dg_step (by omega)]
      have ea : asc (dg (n / 10) ++ [48 + n % 10]) = asc (dg (n / 10)) ++ [Int.ofNat (48 + n % 10)] := by
        unfold asc
        rw [List.map_append]
        rfl
      rw [ea, e1]
      refine ⟨o, rest ++ [Int.ofNat (48 + n % 10)], a0, rfl, e2, e3.app ?_⟩
      have h1 : (48 : Int) ≤ Int.ofNat (48 + n % 10) := by show (48 : Int) ≤ ((48 + n % 10 : Nat) : Int); omega
      have h2 : Int.ofNat (48 + n % 10) ≤ 57 := by show ((48 + n % 10 : Nat) : Int) ≤ 57; omega
      have e4 := ct_dig (k := ((n / 10 : Nat) : Int)) h1 h2 (by omega)
      have : ((n / 10 : Nat) : Int) * 10 + Int.ofNat (48 + n % 10) - 48 = (n : Int) := by show ((n / 10 : Nat) : Int) * 10 + ((48 + n % 10 : Nat) : Int) - 48 = n; omega
      rw [this] at e4
      exact Rn.one fit_cnt (at_cnt e4) fit_cnt
theorem rn_octets : ∀ (os done : List Int) (n : Nat), done.length + os.length < sizeLine → os.length < n → Rn (.cnt ⟨false, true, done, some (n : Int)⟩) os (.cnt ⟨false, true, done ++ os, some ((n - os.length : Nat) : Int)⟩)
  | [], done, n, hl, hn => by
    rw [List.append_nil]
    exact Rn.nil ⟨rfl, ⟨fun _ => ⟨_, rfl⟩, by simpa using hl⟩, rfl⟩
  | o :: os, done, n, hl, hn => by
    have hl : done.length + (os.length + 1) < sizeLine := hl
    have hn : os.length + 1 < n := hn
    have e1 : ((n : Nat) : Int) - 1 = ((n - 1 : Nat) : Int) := by omega
    have e : aTake (.cnt ⟨false, true, done, some (n : Int)⟩) o = (true, .cnt ⟨false, true, done ++ [o], some ((n - 1 : Nat) : Int)⟩) := by
      refine at_cnt ?_
      show (true, Ct.mk (decide ((n : Int) - 1 = 0)) true (done ++ [o]) (some ((n : Int) - 1))) = _
      rw [e1, decide_eq_false (by omega)]
    have r := rn_octets os (done ++ [o]) (n - 1) (by rw [List.length_append]; show done.length + 1 + os.length < sizeLine; omega) (by omega)
    rw [List.append_assoc] at r
    refine ⟨⟨rfl, ⟨fun _ => ⟨_, rfl⟩, by show done.length < sizeLine; omega⟩, rfl⟩, by rw [e], ?_⟩
    rw [e]
    have e2 : n - 1 - os.length = n - (o :: os).length := by rw [List.length_cons]; omega
    rw [← e2]
    exact r
def strO (os : List Int) : List Int := asc (dg os.length) ++ [58] ++ os
theorem row_cnt {os : List Int} (hl : os.length < sizeLine) : RowW os (strO os) := by
  obtain ⟨o, rest, a0, e1, e2, e3⟩ := rn_count os.length
  unfold strO
  rw [e1]
  by_cases c : os = []
  · subst c
    refine ⟨o, rest, 58, a0, _, .cnt ⟨true, true, [], some 0⟩, ?_, e2, e3, ?_, rfl, rfl⟩
    · rw [List.append_nil]
      rfl
    · exact at_cnt (ct_colon 0)
  · obtain ⟨os1, c1, rfl⟩ : ∃ os1 c1, os = os1 ++ [c1] := ⟨os.dropLast, os.getLast c, (List.dropLast_concat_getLast c).symm⟩
    have ll : (os1 ++ [c1]).length = os1.length + 1 := List.length_append
    rw [ll] at hl e3
    have r1 : Rn (.cnt ⟨false, false, [], some ((os1.length + 1 : Nat) : Int)⟩) [58] (.cnt ⟨false, true, [], some ((os1.length + 1 : Nat) : Int)⟩) := by
      have e := ct_colon ((os1.length + 1 : Nat) : Int)
      rw [decide_eq_false (show ¬ ((os1.length + 1 : Nat) : Int) = 0 by omega)] at e
      exact Rn.one fit_cnt (at_cnt e) ⟨rfl, ⟨fun _ => ⟨_, rfl⟩, by show 0 < sizeLine; decide⟩, rfl⟩
    have r2 := rn_octets os1 [] (os1.length + 1) (by show 0 + os1.length < sizeLine; omega) (by omega)
    rw [List.nil_append, show os1.length + 1 - os1.length = 1 by omega] at r2
    refine ⟨o, rest ++ ([58] ++ os1), c1, a0, _, .cnt ⟨true, true, os1 ++ [c1], some 0⟩, ?_, e2, e3.app (r1.app r2), rfl, rfl, rfl⟩
    simp
/-! blanks among the octets of an atom that lets them pass -/
def Thru : Atm → Prop
  | .hex s => s.d = false
  | .b64 s => s.d = false
  | _ => False
theorem thru_blank {a : Atm} (h : Thru a) {o : Int} (ho : o ∈ wsp) : aTake a o = (true, a) := by
  cases a with
  | hex s =>
    show ((hxTake s o).1, Atm.hex (hxTake s o).2) = _
    unfold hxTake
    rw [if_pos ho]
  | b64 s =>
    show ((bxTake s o).1, Atm.b64 (bxTake s o).2) = _
    unfold bxTake
    rw [if_pos ho]
  | no => exact h.elim
  | tok os => exact h.elim
  | quo s => exact h.elim
  | cnt s => exact h.elim
theorem thru_step {a b : Atm} {o : Int} (h : Thru a) (e : aTake a o = (true, b)) (f : Fit b) : Thru b := by
  cases a with
  | hex s =>
    have e2 : b = .hex (hxTake s o).2 := (congrArg Prod.snd e).symm
    subst e2
    exact f.2.2
  | b64 s =>
    have e2 : b = .b64 (bxTake s o).2 := (congrArg Prod.snd e).symm
    subst e2
    exact f.2.2
  | no => exact h.elim
  | tok os => exact h.elim
  | quo s => exact h.elim
  | cnt s => exact h.elim
theorem thru_rn : ∀ {os : List Int} {a b : Atm}, Rn a os b → Thru a → Thru b
  | [], _, _, h, t => by rw [h.1]; exact t
  | o :: os, a, b, h, t => thru_rn (os := os) h.2.2 (thru_step t (by rw [← h.2.1]) h.2.2.fit)
theorem rn_blanks : ∀ {bs : List Int} {a : Atm}, Thru a → Fit a → (∀ o ∈ bs, o ∈ wsp) → Rn a bs a
  | [], a, t, f, _ => Rn.nil f
  | o :: bs, a, t, f, h => by
    have e := thru_blank t (h o (by simp))
    refine ⟨f, by rw [e], ?_⟩
    rw [e]
    exact rn_blanks t f fun x hx => h x (List.mem_cons_of_mem _ hx)
/-- the row with blanks in it: what takes the one takes the other -/
def Spr (row out : List Int) : Prop := ∀ a b, Thru a → Rn a row b → Rn a out b
theorem Spr.nil : Spr [] [] := fun _ _ _ h => h
theorem Spr.blanks {row out bs : List Int} (h : Spr row out) (hb : ∀ o ∈ bs, o ∈ wsp) : Spr row (out ++ bs) := fun a b t r => (h a b t r).app (rn_blanks (thru_rn r t) r.fitE hb)
theorem Rn.split : ∀ {os ps : List Int} {a c : Atm}, Rn a (os ++ ps) c → ∃ b, Rn a os b ∧ Rn b ps c
  | [], ps, a, c, h => ⟨a, Rn.nil h.fit, h⟩
  | o :: os, ps, a, c, h => by
    obtain ⟨b, h1, h2⟩ := Rn.split (os := os) h.2.2
    exact ⟨b, ⟨h.1, h.2.1, h1⟩, h2⟩
theorem Spr.snoc {row out : List Int} {o : Int} (h : Spr row out) : Spr (row ++ [o]) (out ++ [o]) := fun a b t r => by
  obtain ⟨m, r1, r2⟩ := r.split
  exact (h a m t r1).app r2
/-! hex -/
def hx (pre : List Int) : Atm := .hex ⟨false, pre, none⟩
theorem hexW_off {c w : Int} (h : hexW c = some w) : c ∉ wsp ∧ c ≠ 35 := by
  refine ⟨fun z => ?_, fun z => ?_⟩
  · simp [wsp] at z
    rcases z with e | e | e | e | e | e <;> subst e <;> exact absurd h (fun q => by rw [show hexW _ = none from by decide] at q; cases q)
  · subst z
    exact absurd h (fun q => by rw [show hexW 35 = none from by decide] at q; cases q)
theorem hx_take {s : Hx} {c w : Int} (h : hexW c = some w) : aTake (.hex s) c = (true, .hex (hxDigit s w)) := by
  obtain ⟨h1, h2⟩ := hexW_off h
  show ((hxTake s c).1, Atm.hex (hxTake s c).2) = _
  unfold hxTake
  rw [if_neg h1, if_neg h2, h]
theorem rn_hex {pre : List Int} {o h1 h2 : Int} (e1 : hexW h1 = some (o / 16)) (e2 : hexW h2 = some (o % 16)) (hl : pre.length + 1 < sizeLine) : Rn (hx pre) [h1, h2] (hx (pre ++ [o])) := by
  have s2 : aTake (.hex ⟨false, pre, some (o / 16)⟩) h2 = (true, hx (pre ++ [o])) := by
    rw [hx_take e2]
    show (true, Atm.hex ⟨false, pre ++ [o / 16 * 16 + o % 16], none⟩) = _
    rw [show o / 16 * 16 + o % 16 = o by omega]
    rfl
  exact Rn.app (os := [h1]) (Rn.one ⟨rfl, by show pre.length < sizeLine; omega, rfl⟩ (hx_take e1) ⟨rfl, by show pre.length < sizeLine; omega, rfl⟩) (Rn.one ⟨rfl, by show pre.length < sizeLine; omega, rfl⟩ s2 ⟨rfl, by show (pre ++ [o]).length < sizeLine; rw [List.length_append]; exact hl, rfl⟩)
theorem row_hex {os row out : List Int} (h : Rn (hx []) row (hx os)) (s : Spr row out) : RowW os (35 :: (out ++ [35])) := by
  refine ⟨35, out, 35, hx [], hx os, .hex ⟨true, os, none⟩, rfl, rfl, s _ _ rfl h, ?_, rfl, rfl⟩
  show ((hxTake ⟨false, os, none⟩ 35).1, Atm.hex (hxTake ⟨false, os, none⟩ 35).2) = _
  rfl
/-! base64 -/
theorem dg64_off_all : ∀ k ∈ List.range 64, dg64 (k : Int) ∉ wsp ∧ dg64 (k : Int) ≠ 124 := by decide +kernel
theorem dg64_off {w : Int} (h0 : 0 ≤ w) (h1 : w < 64) : dg64 w ∉ wsp ∧ dg64 w ≠ 124 := by
  have h := dg64_off_all w.toNat (List.mem_range.mpr (by omega))
  have e : ((w.toNat : Nat) : Int) = w := by omega
  rw [e] at h
  exact h
theorem take_dig {s : B64} {w : Int} (h0 : 0 ≤ w) (h1 : w < 64) (hp : s.pd = 0) : take64 s (dg64 w) = (true, dig64 s w) := by
  obtain ⟨e1, e2, _⟩ := dg64_ok h0 h1
  unfold take64
  rw [if_neg e2, e1]
  show (if s.pd > 0 then (false, s) else (true, dig64 s w)) = _
  rw [if_neg (by omega)]
theorem take_pad (s : B64) : take64 s 61 = pad64 s := by
  unfold take64
  rw [if_pos rfl]
theorem rn_64 {s t : B64} {o : Int} (h : take64 s o = (true, t)) (ho : o ∉ wsp ∧ o ≠ 124) (f1 : BxOk ⟨false, s⟩) (f2 : BxOk ⟨false, t⟩) : Rn (.b64 ⟨false, s⟩) [o] (.b64 ⟨false, t⟩) := by
  refine Rn.one ⟨rfl, f1, rfl⟩ ?_ ⟨rfl, f2, rfl⟩
  show ((bxTake ⟨false, s⟩ o).1, Atm.b64 (bxTake ⟨false, s⟩ o).2) = _
  unfold bxTake
  rw [if_neg ho.1, if_neg ho.2]
  show ((take64 s o).1, Atm.b64 ⟨false, (take64 s o).2⟩) = _
  rw [h]
theorem d64_0 {oc : List Int} {dg w r : Int} (h : dg % 4 = 0) (h0 : 0 ≤ w) (h1 : w < 64) : take64 ⟨oc, dg, 0, 0⟩ (dg64 w) = (true, ⟨oc, dg + 1, 0, w⟩) := by
  rw [take_dig h0 h1 rfl]
  unfold dig64
  rw [if_pos h]
  simp
theorem d64_1 {oc : List Int} {dg w r : Int} (h : dg % 4 = 1) (h0 : 0 ≤ w) (h1 : w < 64) : take64 ⟨oc, dg, 0, r⟩ (dg64 w) = (true, ⟨oc ++ [(r * 64 + w) / 16], dg + 1, 0, (r * 64 + w) % 16⟩) := by
  rw [take_dig h0 h1 rfl]
  unfold dig64
  rw [if_neg (by show ¬ dg % 4 = 0; omega), show (6 - 2 * ((⟨oc, dg, 0, r⟩ : B64).dg % 4)).toNat = 4 by show (6 - 2 * (dg % 4)).toNat = 4; omega]
  rfl
theorem d64_2 {oc : List Int} {dg w r : Int} (h : dg % 4 = 2) (h0 : 0 ≤ w) (h1 : w < 64) : take64 ⟨oc, dg, 0, r⟩ (dg64 w) = (true, ⟨oc ++ [(r * 64 + w) / 4], dg + 1, 0, (r * 64 + w) % 4⟩) := by
  rw [take_dig h0 h1 rfl]
  unfold dig64
  rw [if_neg (by show ¬ dg % 4 = 0; omega), show (6 - 2 * ((⟨oc, dg, 0, r⟩ : B64).dg % 4)).toNat = 2 by show (6 - 2 * (dg % 4)).toNat = 2; omega]
  rfl
theorem d64_3 {oc : List Int} {dg w r : Int} (h : dg % 4 = 3) (h0 : 0 ≤ w) (h1 : w < 64) : take64 ⟨oc, dg, 0, r⟩ (dg64 w) = (true, ⟨oc ++ [(r * 64 + w) / 1], dg + 1, 0, (r * 64 + w) % 1⟩) := by
  rw [take_dig h0 h1 rfl]
  unfold dig64
  rw [if_neg (by show ¬ dg % 4 = 0; omega), show (6 - 2 * ((⟨oc, dg, 0, r⟩ : B64).dg % 4)).toNat = 0 by show (6 - 2 * (dg % 4)).toNat = 0; omega]
  rfl
theorem p64 {oc : List Int} {dg pd : Int} (h : 2 ≤ dg % 4) (h2 : dg % 4 + pd ≤ 3) : take64 ⟨oc, dg, pd, 0⟩ 61 = (true, ⟨oc, dg, pd + 1, 0⟩) := by
  rw [take_pad]
  unfold pad64
  rw [if_neg (by show ¬ (dg % 4 < 2 ∨ dg % 4 + pd > 3 ∨ (0 : Int) ≠ 0); omega)]
theorem off61 : (61 : Int) ∉ wsp ∧ (61 : Int) ≠ 124 := by decide
theorem bx_ok {oc : List Int} {dg pd rs : Int} (h1 : oc.length < sizeLine) (h2 : 0 ≤ dg) : BxOk ⟨false, ⟨oc, dg, pd, rs⟩⟩ := ⟨h1, h2⟩
theorem rn_enc : ∀ (xs oc : List Int) (dg : Int), (∀ x ∈ xs, 0 ≤ x ∧ x ≤ 255) → dg % 4 = 0 → 0 ≤ dg → oc.length + xs.length < sizeLine → ∃ dg' pd', (dg' + pd') % 4 = 0 ∧ Rn (.b64 ⟨false, ⟨oc, dg, 0, 0⟩⟩) (enc64 xs) (.b64 ⟨false, ⟨oc ++ xs, dg', pd', 0⟩⟩)
  | [], oc, dg, _, h1, h2, hl => ⟨dg, 0, by omega, by rw [List.append_nil]; exact Rn.nil ⟨rfl, ⟨by simpa using hl, h2⟩, rfl⟩⟩
  | [a], oc, dg, hx, h1, h2, hl => by
    obtain ⟨a0, a1⟩ := hx a (by simp)
    have hl : oc.length + 1 < sizeLine := hl
    have l1 : (oc ++ [a]).length < sizeLine := by rw [List.length_append]; exact hl
    have l0 : oc.length < sizeLine := by omega
    have s1 := d64_0 (oc := oc) (r := 0) h1 (w := a / 4) (by omega) (by omega)
    have s2 := d64_1 (oc := oc) (dg := dg + 1) (r := a / 4) (w := a % 4 * 16) (by omega) (by omega) (by omega)
    rw [show (a / 4 * 64 + a % 4 * 16) / 16 = a by omega, show (a / 4 * 64 + a % 4 * 16) % 16 = 0 by omega] at s2
    have s3 := p64 (oc := oc ++ [a]) (dg := dg + 1 + 1) (pd := 0) (by omega) (by omega)
    have s4 := p64 (oc := oc ++ [a]) (dg := dg + 1 + 1) (pd := 0 + 1) (by omega) (by omega)
    refine ⟨_, _, ?_, Rn.app (os := [_]) (rn_64 s1 (dg64_off (by omega) (by omega)) (bx_ok l0 h2) (bx_ok l0 (by omega))) (Rn.app (os := [_]) (rn_64 s2 (dg64_off (by omega) (by omega)) (bx_ok l0 (by omega)) (bx_ok l1 (by omega))) (Rn.app (os := [_]) (rn_64 s3 off61 (bx_ok l1 (by omega)) (bx_ok l1 (by omega))) (rn_64 s4 off61 (bx_ok l1 (by omega)) (bx_ok l1 (by omega)))))⟩
    omega
  | [a, b], oc, dg, hx, h1, h2, hl => by
    obtain ⟨a0, a1⟩ := hx a (by simp)
    obtain ⟨b0, b1⟩ := hx b (by simp)
    have hl : oc.length + 2 < sizeLine := hl
    have l2 : (oc ++ [a, b]).length < sizeLine := by rw [List.length_append]; exact hl
    have l1 : (oc ++ [a]).length < sizeLine := by rw [List.length_append]; show oc.length + 1 < sizeLine; omega
    have l0 : oc.length < sizeLine := by omega
    have s1 := d64_0 (oc := oc) (r := 0) h1 (w := a / 4) (by omega) (by omega)
    have s2 := d64_1 (oc := oc) (dg := dg + 1) (r := a / 4) (w := a % 4 * 16 + b / 16) (by omega) (by omega) (by omega)
    rw [show (a / 4 * 64 + (a % 4 * 16 + b / 16)) / 16 = a by omega, show (a / 4 * 64 + (a % 4 * 16 + b / 16)) % 16 = b / 16 by omega] at s2
    have s3 := d64_2 (oc := oc ++ [a]) (dg := dg + 1 + 1) (r := b / 16) (w := b % 16 * 4) (by omega) (by omega) (by omega)
    rw [show (b / 16 * 64 + b % 16 * 4) / 4 = b by omega, show (b / 16 * 64 + b % 16 * 4) % 4 = 0 by omega, List.append_assoc, show [a] ++ [b] = [a, b] from rfl] at s3
    have s4 := p64 (oc := oc ++ [a, b]) (dg := dg + 1 + 1 + 1) (pd := 0) (by omega) (by omega)
    refine ⟨_, _, ?_, Rn.app (os := [_]) (rn_64 s1 (dg64_off (by omega) (by omega)) (bx_ok l0 h2) (bx_ok l0 (by omega))) (Rn.app (os := [_]) (rn_64 s2 (dg64_off (by omega) (by omega)) (bx_ok l0 (by omega)) (bx_ok l1 (by omega))) (Rn.app (os := [_]) (rn_64 s3 (dg64_off (by omega) (by omega)) (bx_ok l1 (by omega)) (bx_ok l2 (by omega))) (rn_64 s4 off61 (bx_ok l2 (by omega)) (bx_ok l2 (by omega)))))⟩
    omega
  | a :: b :: c :: r, oc, dg, hx, h1, h2, hl => by
    obtain ⟨a0, a1⟩ := hx a (by simp)
    obtain ⟨b0, b1⟩ := hx b (by simp)
    obtain ⟨c0, c1⟩ := hx c (by simp)
    have hl : oc.length + (r.length + 3) < sizeLine := hl
    have l3 : (oc ++ [a, b, c]).length < sizeLine := by rw [List.length_append]; show oc.length + 3 < sizeLine; omega
    have l2 : (oc ++ [a, b]).length < sizeLine := by rw [List.length_append]; show oc.length + 2 < sizeLine; omega
    have l1 : (oc ++ [a]).length < sizeLine := by rw [List.length_append]; show oc.length + 1 < sizeLine; omega
    have l0 : oc.length < sizeLine := by omega
    have s1 := d64_0 (oc := oc) (r := 0) h1 (w := a / 4) (by omega) (by omega)
    have s2 := d64_1 (oc := oc) (dg := dg + 1) (r := a / 4) (w := a % 4 * 16 + b / 16) (by omega) (by omega) (by omega)
    rw [show (a / 4 * 64 + (a % 4 * 16 + b / 16)) / 16 = a by omega, show (a / 4 * 64 + (a % 4 * 16 + b / 16)) % 16 = b / 16 by omega] at s2
    have s3 := d64_2 (oc := oc ++ [a]) (dg := dg + 1 + 1) (r := b / 16) (w := b % 16 * 4 + c / 64) (by omega) (by omega) (by omega)
    rw [show (b / 16 * 64 + (b % 16 * 4 + c / 64)) / 4 = b by omega, show (b / 16 * 64 + (b % 16 * 4 + c / 64)) % 4 = c / 64 by omega, List.append_assoc, show [a] ++ [b] = [a, b] from rfl] at s3
    have s4 := d64_3 (oc := oc ++ [a, b]) (dg := dg + 1 + 1 + 1) (r := c / 64) (w := c % 64) (by omega) (by omega) (by omega)
    rw [show (c / 64 * 64 + c % 64) / 1 = c by omega, show (c / 64 * 64 + c % 64) % 1 = 0 by omega, List.append_assoc, show [a, b] ++ [c] = [a, b, c] from rfl] at s4
    obtain ⟨dg', pd', q1, q2⟩ := rn_enc r (oc ++ [a, b, c]) (dg + 1 + 1 + 1 + 1) (fun x hx' => hx x (by simp [hx'])) (by omega) (by omega) (by rw [List.length_append]; show oc.length + 3 + r.length < sizeLine; omega)
    rw [List.append_assoc] at q2
    exact ⟨dg', pd', q1, Rn.app (os := [_]) (rn_64 s1 (dg64_off (by omega) (by omega)) (bx_ok l0 h2) (bx_ok l0 (by omega))) (Rn.app (os := [_]) (rn_64 s2 (dg64_off (by omega) (by omega)) (bx_ok l0 (by omega)) (bx_ok l1 (by omega))) (Rn.app (os := [_]) (rn_64 s3 (dg64_off (by omega) (by omega)) (bx_ok l1 (by omega)) (bx_ok l2 (by omega))) (Rn.app (os := [_]) (rn_64 s4 (dg64_off (by omega) (by omega)) (bx_ok l2 (by omega)) (bx_ok l3 (by omega))) q2)))⟩
theorem row_b64 {os out : List Int} (ho : ∀ x ∈ os, 0 ≤ x ∧ x ≤ 255) (hl : os.length < sizeLine) (s : Spr (enc64 os) out) : RowW os (124 :: (out ++ [124])) := by
  obtain ⟨dg', pd', q1, q2⟩ := rn_enc os [] 0 ho rfl (by decide) (by simpa using hl)
  rw [List.nil_append] at q2
  refine ⟨124, out, 124, .b64 bx0, _, .b64 ⟨true, ⟨os, dg', pd', 0⟩⟩, rfl, rfl, s _ _ rfl q2, ?_, rfl, rfl⟩
  show ((bxTake ⟨false, ⟨os, dg', pd', 0⟩⟩ 124).1, Atm.b64 (bxTake ⟨false, ⟨os, dg', pd', 0⟩⟩ 124).2) = _
  unfold bxTake
  rw [if_neg (by decide), if_pos rfl]
  show (decide ((dg' + pd') % 4 = 0), Atm.b64 ⟨decide ((dg' + pd') % 4 = 0), _⟩) = _
  rw [decide_eq_true q1]
/-! quotes -/
def qu (pre : List Int) : Atm := .quo ⟨false, pre, none⟩
def que (pre : List Int) (t : Es) : Atm := .quo ⟨false, pre, some t⟩
theorem fit_qu {pre : List Int} (h : pre.length < sizeLine) : Fit (qu pre) := ⟨rfl, ⟨h, fun _ z => by cases z⟩, rfl⟩
theorem fit_que {pre : List Int} {t : Es} (h : pre.length < sizeLine) (hb : ∀ b, t.b = some b → 0 ≤ b ∧ b ≤ 16) : Fit (que pre t) := ⟨rfl, ⟨h, fun _ z => by cases z; exact hb⟩, rfl⟩
theorem qt_mid {pre : List Int} {t t' : Es} {o : Int} (h : esTake t o = (true, t')) (d : t'.d = false) : aTake (que pre t) o = (true, que pre t') := by
  show ((quTake ⟨false, pre, some t⟩ o).1, Atm.quo (quTake ⟨false, pre, some t⟩ o).2) = _
  have e : quTake ⟨false, pre, some t⟩ o = (true, ⟨false, pre, some t'⟩) := by
    show (if (esTake t o).1 = false then _ else if (esTake t o).2.d = true then _ else _) = _
    rw [h, if_neg (fun z => Bool.noConfusion z), if_neg (fun z => by rw [d] at z; cases z)]
  rw [e]
  rfl
theorem qt_end {pre : List Int} {t t' : Es} {o : Int} (h : esTake t o = (true, t')) (d : t'.d = true) : aTake (que pre t) o = (true, qu (pre ++ t'.o.toList)) := by
  show ((quTake ⟨false, pre, some t⟩ o).1, Atm.quo (quTake ⟨false, pre, some t⟩ o).2) = _
  have e : quTake ⟨false, pre, some t⟩ o = (true, ⟨false, pre ++ t'.o.toList, none⟩) := by
    show (if (esTake t o).1 = false then _ else if (esTake t o).2.d = true then _ else _) = _
    rw [h, if_neg (fun z => Bool.noConfusion z), if_pos d]
  rw [e]
  rfl
theorem qt_esc {pre : List Int} : aTake (qu pre) 92 = (true, que pre es0) := by
  show ((quTake ⟨false, pre, none⟩ 92).1, Atm.quo (quTake ⟨false, pre, none⟩ 92).2) = _
  have e : quTake ⟨false, pre, none⟩ 92 = (true, ⟨false, pre, some es0⟩) := by
    rfl
  rw [e]
  rfl
theorem rn_plain {pre : List Int} {o : Int} (h1 : 32 ≤ o) (h2 : o ≤ 126) (h3 : o ≠ 34) (h4 : o ≠ 92) (hl : pre.length + 1 < sizeLine) : Rn (qu pre) [o] (qu (pre ++ [o])) := by
  refine Rn.one (fit_qu (by omega)) ?_ (fit_qu (by rw [List.length_append]; exact hl))
  show ((quTake ⟨false, pre, none⟩ o).1, Atm.quo (quTake ⟨false, pre, none⟩ o).2) = _
  have e : quTake ⟨false, pre, none⟩ o = (true, ⟨false, pre ++ [o], none⟩) := by
    show (if o = 34 then _ else if o = 92 then _ else (decide (32 ≤ o) && decide (o ≤ 126), _)) = _
    rw [if_neg h3, if_neg h4, decide_eq_true h1, decide_eq_true h2]
    rfl
  rw [e]
  rfl
/-- a backslash and one octet -/
theorem es_short {c : Int} (h1 : c ≠ 120) (h2 : ¬ (48 ≤ c ∧ c ≤ 51)) (h3 : c = 10 ∨ (shortE c).isSome = true) : esTake es0 c = (true, { es0 with o := shortE c, d := true }) := by
  show esFirst es0 c = _
  unfold esFirst
  have e : (decide (c = 10) || (shortE c).isSome) = true := by
    rcases h3 with z | z
    · rw [decide_eq_true z]; rfl
    · rw [z, Bool.or_true]
  rw [if_neg h1, if_neg h2, e]
theorem rn_short {pre : List Int} {c : Int} {r : List Int} (h1 : c ≠ 120) (h2 : ¬ (48 ≤ c ∧ c ≤ 51)) (h3 : c = 10 ∨ (shortE c).isSome = true) (e : (shortE c).toList = r) (hl : pre.length + 1 < sizeLine) : Rn (qu pre) [92, c] (qu (pre ++ r)) := by
  have fq : Fit (que pre es0) := fit_que (by omega) fun b z => by cases z
  have s2 := qt_end (pre := pre) (es_short h1 h2 h3) rfl
  have hr : r.length ≤ 1 := by
    rw [← e]
    cases shortE c <;> simp
  have s2 : aTake (que pre es0) c = (true, qu (pre ++ r)) := by
    rw [s2]
    show (true, qu (pre ++ (shortE c).toList)) = _
    rw [e]
  exact Rn.app (os := [92]) (Rn.one (fit_qu (by omega)) qt_esc fq) (Rn.one fq s2 (fit_qu (by rw [List.length_append]; omega)))
theorem rn_feed {pre : List Int} (hl : pre.length + 1 < sizeLine) : Rn (qu pre) [92, 10] (qu pre) := by
  have := rn_short (pre := pre) (c := 10) (r := []) (by decide) (by decide) (.inl rfl) (by decide) hl
  rw [List.append_nil] at this
  exact this
theorem hexW_low {d : Int} (h0 : 0 ≤ d) (h1 : d ≤ 9) : hexW (48 + d) = some d := by
  unfold hexW
  rw [if_pos ⟨by omega, by omega⟩]
  congr 1
  omega
theorem rn_oct {pre : List Int} {o : Int} (h0 : 0 ≤ o) (h1 : o ≤ 255) (hl : pre.length + 1 < sizeLine) : Rn (qu pre) [92, 48 + o / 64, 48 + o / 8 % 8, 48 + o % 8] (qu (pre ++ [o])) := by
  have b8 : ∀ (x : Bool) (y : Option Int) (m w : Int), ∀ b, (⟨x, y, some 8, m, w⟩ : Es).b = some b → 0 ≤ b ∧ b ≤ 16 := fun _ _ _ _ b z => by
    have z : (8 : Int) = b := Option.some.inj z
    omega
  have fq : Fit (que pre es0) := fit_que (by omega) fun b z => by cases z
  have s1 : esTake es0 (48 + o / 64) = (true, ⟨false, none, some 8, 2, o / 64⟩) := by
    show esFirst es0 (48 + o / 64) = _
    unfold esFirst
    rw [if_neg (by omega), if_pos ⟨by omega, by omega⟩]
    show (true, esDigit ⟨false, none, some 8, 3, 0⟩ (48 + o / 64 - 48)) = _
    unfold esDigit
    rw [if_neg (by decide)]
    show (true, Es.mk false none (some 8) (3 - 1) (0 * 8 + (48 + o / 64 - 48))) = _
    rw [show (0 : Int) * 8 + (48 + o / 64 - 48) = o / 64 by omega]
    rfl
  have s2 : esTake ⟨false, none, some 8, 2, o / 64⟩ (48 + o / 8 % 8) = (true, ⟨false, none, some 8, 1, o / 8⟩) := by
    unfold esTake
    rw [hexW_low (by omega) (by omega)]
    show (if (8 : Int) ≤ o / 8 % 8 then _ else _) = _
    rw [if_neg (by omega)]
    unfold esDigit
    rw [if_neg (show ¬ (2 : Int) - 1 = 0 by decide)]
    show (true, Es.mk false none (some 8) (2 - 1) (o / 64 * 8 + o / 8 % 8)) = _
    rw [show o / 64 * 8 + o / 8 % 8 = o / 8 by omega]
    rfl
  have s3 : esTake ⟨false, none, some 8, 1, o / 8⟩ (48 + o % 8) = (true, ⟨true, some o, some 8, 0, o⟩) := by
    unfold esTake
    rw [hexW_low (by omega) (by omega)]
    show (if (8 : Int) ≤ o % 8 then _ else _) = _
    rw [if_neg (by omega)]
    unfold esDigit
    rw [if_pos (show (1 : Int) - 1 = 0 by decide)]
    show (true, Es.mk true (some (o / 8 * 8 + o % 8)) (some 8) (1 - 1) (o / 8 * 8 + o % 8)) = _
    rw [show o / 8 * 8 + o % 8 = o by omega]
    rfl
  have f1 : Fit (que pre ⟨false, none, some 8, 2, o / 64⟩) := fit_que (by omega) (b8 _ _ _ _)
  have f2 : Fit (que pre ⟨false, none, some 8, 1, o / 8⟩) := fit_que (by omega) (b8 _ _ _ _)
  exact Rn.app (os := [92]) (Rn.one (fit_qu (by omega)) qt_esc fq) (Rn.app (os := [48 + o / 64]) (Rn.one fq (qt_mid s1 rfl) f1) (Rn.app (os := [48 + o / 8 % 8]) (Rn.one f1 (qt_mid s2 rfl) f2) (Rn.one f2 (qt_end s3 rfl) (fit_qu (by rw [List.length_append]; exact hl)))))
theorem rn_qhex {pre : List Int} {o h1 h2 : Int} (h0 : 0 ≤ o) (h9 : o ≤ 255) (e1 : hexW h1 = some (o / 16)) (e2 : hexW h2 = some (o % 16)) (hl : pre.length + 1 < sizeLine) : Rn (qu pre) [92, 120, h1, h2] (qu (pre ++ [o])) := by
  have b16 : ∀ (x : Bool) (y : Option Int) (m w : Int), ∀ b, (⟨x, y, some 16, m, w⟩ : Es).b = some b → 0 ≤ b ∧ b ≤ 16 := fun _ _ _ _ b z => by
    have z : (16 : Int) = b := Option.some.inj z
    omega
  have fq : Fit (que pre es0) := fit_que (by omega) fun b z => by cases z
  have s1 : esTake es0 120 = (true, ⟨false, none, some 16, 2, 0⟩) := rfl
  have s2 : esTake ⟨false, none, some 16, 2, 0⟩ h1 = (true, ⟨false, none, some 16, 1, o / 16⟩) := by
    unfold esTake
    rw [e1]
    show (if (16 : Int) ≤ o / 16 then _ else _) = _
    rw [if_neg (by omega)]
    unfold esDigit
    rw [if_neg (show ¬ (2 : Int) - 1 = 0 by decide)]
    show (true, Es.mk false none (some 16) (2 - 1) (0 * 16 + o / 16)) = _
    rw [show 0 * 16 + o / 16 = o / 16 by omega]
    rfl
  have s3 : esTake ⟨false, none, some 16, 1, o / 16⟩ h2 = (true, ⟨true, some o, some 16, 0, o⟩) := by
    unfold esTake
    rw [e2]
    show (if (16 : Int) ≤ o % 16 then _ else _) = _
    rw [if_neg (by omega)]
    unfold esDigit
    rw [if_pos (show (1 : Int) - 1 = 0 by decide)]
    show (true, Es.mk true (some (o / 16 * 16 + o % 16)) (some 16) (1 - 1) (o / 16 * 16 + o % 16)) = _
    rw [show o / 16 * 16 + o % 16 = o by omega]
    rfl
  have f1 : Fit (que pre ⟨false, none, some 16, 2, 0⟩) := fit_que (by omega) (b16 _ _ _ _)
  have f2 : Fit (que pre ⟨false, none, some 16, 1, o / 16⟩) := fit_que (by omega) (b16 _ _ _ _)
  exact Rn.app (os := [92]) (Rn.one (fit_qu (by omega)) qt_esc fq) (Rn.app (os := [120]) (Rn.one fq (qt_mid s1 rfl) f1) (Rn.app (os := [h1]) (Rn.one f1 (qt_mid s2 rfl) f2) (Rn.one f2 (qt_end s3 rfl) (fit_qu (by rw [List.length_append]; exact hl)))))
theorem row_quo {os body : List Int} (h : Rn (qu []) body (qu os)) : RowW os (34 :: (body ++ [34])) := ⟨34, body, 34, qu [], qu os, .quo ⟨true, os, none⟩, rfl, rfl, h, rfl, rfl, rfl⟩

/-! ### the law's draws: values of all kinds -/







def Point (c : Int) : Prop := 0 ≤ c ∧ c ≤ 1114111 ∧ (c < 55296 ∨ 57344 ≤ c)
def Kp (k : List Int) : Prop := k.length ≤ 200 ∧ ∀ c ∈ k, Point c
/-- leaves: octets, or what S-expressions lack -/
inductive Lg : Str → List PyData → Prop
  | bytes (os : List Int) (h : Oc os) : Lg "bytes" [kd os]
  | odd (k : Str) (r : List PyData) (h : k ≠ "bytes") (h2 : k ≠ "list") (h3 : k ≠ "map") : Lg k r
def KsOk (ks : List Str) : Prop := 0 < ks.length ∧ ks.length ≤ 100 ∧ ∀ k ∈ ks, k = "truth" ∨ k = "number" ∨ k = "bytes" ∨ k = "text" ∨ k = "null"
mutual
/-- values with such leaves -/
def Vl.gf : Nat → Vl → Prop
  | _, .lf k r => Lg k r
  | 0, .ls _ => False
  | n + 1, .ls xs => xs.length ≤ 49 ∧ gfL n xs
  | 0, .mp _ => False
  | n + 1, .mp es => es.length ≤ 49 ∧ (∀ e ∈ es, Kp e.1) ∧ gfM n es
def gfL : Nat → List Vl → Prop
  | _, [] => True
  | n, x :: xs => x.gf n ∧ gfL n xs
def gfM : Nat → List (List Int × Vl) → Prop
  | _, [] => True
  | n, (_, v) :: es => v.gf n ∧ gfM n es
end
theorem gfL_mem : ∀ {n : Nat} {xs : List Vl}, gfL n xs → ∀ x ∈ xs, x.gf n
  | _, [], _, x, h => absurd h (by simp)
  | _, y :: ys, h, x, hx => by
    rcases List.mem_cons.mp hx with e | e
    · rw [e]
      exact h.1
    · exact gfL_mem h.2 x e
theorem gfL_of : ∀ {n : Nat} {xs : List Vl}, (∀ x ∈ xs, x.gf n) → gfL n xs
  | _, [], _ => trivial
  | _, y :: ys, h => ⟨h _ (List.mem_cons_self ..), gfL_of fun e he => h e (List.mem_cons_of_mem _ he)⟩
theorem gfM_of : ∀ {n : Nat} {es : List (List Int × Vl)}, (∀ e ∈ es, e.2.gf n) → gfM n es
  | _, [], _ => trivial
  | _, (k, v) :: ys, h => ⟨h _ (List.mem_cons_self ..), gfM_of fun e he => h e (List.mem_cons_of_mem _ he)⟩
theorem gfM_mem : ∀ {n : Nat} {es : List (List Int × Vl)}, gfM n es → ∀ e ∈ es, e.2.gf n
  | _, [], _, x, h => absurd h (by simp)
  | _, (k, v) :: ys, h, x, hx => by
    rcases List.mem_cons.mp hx with e | e
    · rw [e]
      exact h.1
    · exact gfM_mem h.2 x e
mutual
/-- values that S-expressions have -/
def Vl.sf : Nat → Vl → Prop
  | _, .lf k r => ∃ os, k = "bytes" ∧ r = [kd os] ∧ Oc os
  | 0, .ls _ => False
  | n + 1, .ls xs => xs.length ≤ 49 ∧ sfL n xs
  | _, .mp _ => False
def sfL : Nat → List Vl → Prop
  | _, [] => True
  | n, x :: xs => x.sf n ∧ sfL n xs
end
theorem sfL_mem : ∀ {n : Nat} {xs : List Vl}, sfL n xs → ∀ x ∈ xs, x.sf n
  | _, [], _, x, h => absurd h (by simp)
  | _, y :: ys, h, x, hx => by
    rcases List.mem_cons.mp hx with e | e
    · rw [e]
      exact h.1
    · exact sfL_mem h.2 x e
theorem sfL_of : ∀ {n : Nat} {xs : List Vl}, (∀ x ∈ xs, x.sf n) → sfL n xs
  | _, [], _ => trivial
  | _, y :: ys, h => ⟨h _ (List.mem_cons_self ..), sfL_of fun e he => h e (List.mem_cons_of_mem _ he)⟩
theorem sfL_app {n : Nat} {xs ys : List Vl} (h1 : sfL n xs) (h2 : sfL n ys) : sfL n (xs ++ ys) := sfL_of fun x hx => by
  rcases List.mem_append.mp hx with q | q
  · exact sfL_mem h1 x q
  · exact sfL_mem h2 x q
theorem sf_leaf {os : List Int} (h : Oc os) (n : Nat) : (Vl.lf "bytes" [kd os]).sf n := by cases n <;> exact ⟨os, rfl, rfl, h⟩
/-- what the budget l, gone down to l', allows for a value of size n -/
def Bud (l l' : Int) (n : Nat) : Prop := (n : Int) + 1 ≤ 2 * (l - l') ∧ l - l' ≤ 1 + 49 * (max l 0 - max l' 0)
/-- the same for k values, of size n together -/
def BudL (l l' : Int) (n k : Nat) : Prop := (n : Int) + k ≤ 2 * (l - l') ∧ l - l' ≤ k + 49 * (max l 0 - max l' 0)
theorem budL_nil (l : Int) : BudL l l 0 0 := by unfold BudL; omega
theorem budL_cons {l l1 l2 : Int} {n m k : Nat} (a : BudL l l1 n k) (b : Bud l1 l2 m) : BudL l l2 (n + m) (k + 1) := by
  unfold BudL Bud at *
  omega
theorem bud_node {l l' : Int} {n k : Nat} (hl : 0 < l - 1) (hk : k ≤ 49) (a : BudL (l - 1) l' n k) : Bud l l' (1 + n) := by
  unfold BudL at a
  unfold Bud
  omega
theorem bud_map {l l' : Int} {n k : Nat} (hl : 0 < l - 1) (hk : k ≤ 49) (a : BudL (l - 1) l' n k) : Bud l l' (1 + (n + k)) := by
  unfold BudL at a
  unfold Bud
  omega
theorem bud_leaf {l : Int} {n : Nat} (h : n ≤ 1) : Bud l (l - 1) n := by
  unfold Bud
  omega
mutual
/-- how large it is -/
def vsz : Vl → Nat
  | .ls xs => 1 + vszL xs
  | .mp es => 1 + vszM es
  | .lf _ _ => 1
def vszL : List Vl → Nat
  | [] => 0
  | x :: xs => vsz x + vszL xs
def vszM : List (List Int × Vl) → Nat
  | [] => 0
  | (_, v) :: es => 1 + vsz v + vszM es
end
theorem gfL_app {n : Nat} {xs ys : List Vl} (h1 : gfL n xs) (h2 : gfL n ys) : gfL n (xs ++ ys) := gfL_of fun x hx => by
  rcases List.mem_append.mp hx with q | q
  · exact gfL_mem h1 x q
  · exact gfL_mem h2 x q
theorem gf_leaf {k : Str} {r : List PyData} (h : Lg k r) (n : Nat) : (Vl.lf k r).gf n := by cases n <;> exact h
theorem vszL_app : ∀ (xs ys : List Vl), vszL (xs ++ ys) = vszL xs + vszL ys
  | [], ys => (Nat.zero_add _).symm
  | x :: xs, ys => by
    show vsz x + vszL (xs ++ ys) = vsz x + vszL xs + vszL ys
    rw [vszL_app xs ys, Nat.add_assoc]
theorem vszM_sum : ∀ es : List (List Int × Vl), vszM es = (es.map fun e => vsz e.2).sum + es.length
  | [] => rfl
  | (k, v) :: es => by
    show 1 + vsz v + vszM es = (vsz v + (es.map fun e => vsz e.2).sum) + (es.length + 1)
    rw [vszM_sum es]
    omega
/-- an entry and its value -/
def EvF (H : Hp) (n : Nat) (e : Ent × Vl) : Prop := EntAt H e.1 ∧ Tp H (.ref e.1.u) e.2.dat ∧ e.2.gf n ∧ Kp e.1.k
theorem EvF.tk {H H' : Hp} {n : Nat} {e : Ent × Vl} (k : Tk H H') (h : EvF H n e) : EvF H' n e := ⟨h.1.tk k, Tp.tk k _ _ h.2.1, h.2.2⟩
theorem tpa_entF {H : Hp} {n : Nat} {zs : List (Ent × Vl)} (h : ∀ e ∈ zs, EvF H n e) : TpAll H ((zs.map fun e => e.1).map fun e => V.ref e.t) (datM (zs.map fun e => (e.1.k, e.2))) := by
  rw [datM_map, List.map_map, List.map_map]
  exact tpa_map fun e he => .tup (h e he).1.1 (.cons (tp_kd (h e he).1.2) (.cons (h e he).2.1 .nil))
def sp__law_many (K : Frg) : Sp := sp2 fun a b H Q _ => ∃ S l mo, a = .ref S.a ∧ b = .int mo ∧ 21 ≤ mo ∧ LB K S l H ∧ ∀ (r : Int) (H' : Hp), 0 ≤ r → r < mo → LB K S l H' → Keep S H H' → Q (.int r) H'
def sp__law_points (K : Frg) : Sp := sp1 fun a H Q _ => ∃ S l, a = .ref S.a ∧ LB K S l H ∧ ∀ (p : Addr) (ps : List Int) (H' : Hp), H' p = some (.tup (ps.map V.int)) → Kp ps → LB K S l H' → Keep S H H' → Q (.ref p) H'
def sp__law_octets (K : Frg) : Sp := sp1 fun a H Q _ => ∃ S l, a = .ref S.a ∧ LB K S l H ∧ ∀ (p : Addr) (os : List Int) (H' : Hp), H' p = some (.tup (os.map V.int)) → Oc os → LB K S l H' → Keep S H H' → Q (.ref p) H'
def sp__law_leaf (K : Frg) : Sp := sp2 fun a b H Q _ => ∃ S l kl ks, a = .ref S.a ∧ b = .ref kl ∧ kl ≠ S.a ∧ H kl = some (.lst (ks.map V.str)) ∧ KsOk ks ∧ LB K S l H ∧ ∀ (v : V) (k : Str) (r : List PyData) (H' : Hp), Lg k r → Tp H' v (.tuple (.str k :: r)) → LB K S l H' → Keep S H H' → Q v H'
def sp__law_value (K : Frg) (n : Nat) : Sp := sp4 fun a d k m H Q _ => ∃ (S : SC) (l : Int) (deep : Nat) (kl : Addr) (ks : List Str) (mp : Bool), a = .ref S.a ∧ d = .int (deep : Nat) ∧ k = .ref kl ∧ m = .bl mp ∧ kl ≠ S.a ∧ H kl = some (.lst (ks.map V.str)) ∧ KsOk ks ∧ deep < n ∧ LB K S l H ∧
  ∀ (v : V) (t : Vl) (l' : Int) (H' : Hp), t.gf deep → Bud l l' (vsz t) → Tp H' v t.dat → LB K S l' H' → Keep S H H' → Q v H'
theorem no__law_value {K : Frg} {vs : List V} {H : Hp} {Q : VK} {E : XK} (h : sp__law_value K 0 vs H Q E) : False := by
  obtain ⟨_, _, _, _, rfl, S, l, deep, kl, ks, mp, _, _, _, _, _, _, _, h, _⟩ := h
  exact absurd h (Nat.not_lt_zero _)
def sp__law_towered (K : Frg) : Sp := sp3 fun a b c H Q _ => ∃ S l t mp, a = .ref S.a ∧ c = .bl mp ∧ LB K S l H ∧ Tp H b (Vl.dat t) ∧ t.gf 4 ∧ ∀ (v : V) (t' : Vl) (n : Nat) (H' : Hp), n ≤ 24 → t'.gf n → vsz t' ≤ vsz t + 40 → Tp H' v t'.dat → LB K S l H' → Keep S H H' → Q v H'
def sp__law_mixed (K : Frg) : Sp := sp2 fun a b H Q _ => ∃ (S : SC) (l : Int) (p : Addr) (xs : List V), a = .ref S.a ∧ b = .ref p ∧ H p = some (.tup xs) ∧ xs.length ≤ 1000 ∧ LB K S l H ∧ ∀ (q : Addr) (ys : List V) (H' : Hp), ys.Perm xs → H q = none → q ≠ S.a → H' q = some (.lst ys) → LB K S l H' → Keep S H H' → Q (.ref q) H'
theorem keep_away {S : SC} {H H' : Hp} {D : Addr} {o : HO} (k : Keep S H H') (n : H D = none) : Keep S H (upd H' D o) := fun b u hb h => by
  rw [upd_ne (fun e => by rw [e, n] at h; cases h)]
  exact k b u hb h
theorem LB.away {K : Frg} {S : SC} {H H1 : Hp} {l l1 : Int} (L1 : LB K S l1 H1) {D : Addr} (hD : H1 D = none) (L : LB K S l H) (o : HO) : LB K S l (upd H D o) := by
  refine ⟨L1.ls.away hD L.ls o, ?_⟩
  obtain ⟨_, k1, f1, e1⟩ := L1
  obtain ⟨_, k, f, e⟩ := L
  exact ⟨k, f, (upd_ne (fun z => by rw [z, hD] at e1; cases e1)).trans e⟩
def menu22 : List Int := [97, 98, 34, 92, 47, 10, 9, 1, 31, 127, 128, 233, 2047, 2048, 8364, 55295, 57344, 65535, 65536, 128512, 1114111, 48]
theorem menu22_in : ∀ v ∈ menu22, Point v := by
  intro v hv
  have h : ∀ v ∈ menu22, 0 ≤ v ∧ v ≤ 1114111 ∧ (v < 55296 ∨ 57344 ≤ v) := by decide
  exact h v hv
theorem pt_low {v : Int} (h0 : 0 ≤ v) (h1 : v < 55296) : Point v := ⟨h0, by omega, .inl h1⟩
theorem new_b {K : Frg} {S : SC} {l : Int} {H : Hp} {p : Addr} {o : HO} (L : LB K S l H) (hp : H p = none) : ∃ H', upd H p o = H' ∧ LB K S l H' ∧ Same H H' ∧ H' p = some o := ⟨_, rfl, L.new hp o, same_upd hp o, upd_same⟩
section
variable {P : Program} {w : World} {K : PySem.W.Frag} {mg : Str → Option Value} {base : Heap} {f : Addr} {fd : FuncData}
theorem ok__law_many (F : FunD K "_law_many" "_law_many" (defArgs s__law_many) (defBody s__law_many) (defScope s__law_many) [] [] (glAd "_law_many" K) fd) (m : mg "_law_many" = some (.ref (glAd "_law_many" K))) (nb : Nm w K mg) (c__law_next : Cal P w K mg base 1 "_law_next" (sp__law_next K) []) : Cal P w K mg base 2 "_law_many" (sp__law_many K) [] := by
  refine calD F m sc__law_many (fun _ _ _ _ _ _ us hl => match us, hl with | [_, _], _ => rfl) len2 (fun cdv A outer s H vs Q E hr h => ⟨_, (pss_cons (ps_if (PW.pt (pw_and (pt_cmpR op_gt (pe_ix ix_list (pv 0) pe_int (fun _ _ => rfl)) pe_int (nomark _)) (pw_and1 (pt_cmpR op_eq (pe_c c__law_next hr (by decide) rfl (pa_cons (pv 0) (pa_cons pe_int pa_nil))) pe_int (nomark _)))))
    (pss_cons (ps_asg (pe_op op_sub (pe_ix ix_list (pv 0) pe_int (fun _ _ => rfl)) pe_int) (pg_sub (pv 0) pe_int set_list))
    (pss_one (ps_ret (pe_op op_add pe_int (pe_c c__law_next hr (by decide) rfl (pa_cons (pv 0) (pa_cons (pe_op op_sub (pv 1) pe_int) pa_nil)))))))
    pss_nil)
    (pss_one (ps_ret (pe_c c__law_next hr (by decide) rfl (pa_cons (pv 0) (pa_cons pe_int pa_nil)))))), ?_⟩)
  obtain ⟨_, _, rfl, S, l, mo, rfl, rfl, hmo, L, h⟩ := h
  obtain ⟨kk, f5, e⟩ := L.at_
  walk_at "rf"
  refine r_ixL (SqL.of e) rfl ?_
  walk_at "rf"
  refine r_ite (fun c => ?_) (fun c => ?_)
  · walk_at "rf"
    refine b_next L (by decide) fun r3 H3 a3 b3 L3 k3 => ?_
    walk_at "rf"
    refine r_ite (fun c2 => ?_) (fun c2 => ?_)
    · obtain ⟨kk, f5, e⟩ := L3.at_
      walk_at "rf"
      refine r_ixL (SqL.of e) rfl ?_
      walk_at "rf"
      refine r_setL e rfl ?_
      walk_at "rf"
      have L4 := L3.put kk l (f5 - 1)
      have k4 := k3.trans (Keep.put (H := H3) (.lst [.ref S.nl, .int kk, .int l, .ref S.sl, .int (f5 - 1)]))
      refine b_next L4 (by omega) fun r5 H5 a5 b5 L5 k5 => ?_
      walk_at "rf"
      exact h _ _ (by omega) (by omega) L5 (k4.trans k5)
    · walk_at "rf"
      refine b_next L3 (by decide) fun r5 H5 a5 b5 L5 k5 => ?_
      exact h _ _ a5 (by omega) L5 (k3.trans k5)
  · walk_at "rf"
    refine b_next L (by decide) fun r5 H5 a5 b5 L5 k5 => ?_
    exact h _ _ a5 (by omega) L5 k5
theorem ok__law_points (F : FunD K "_law_points" "_law_points" (defArgs s__law_points) (defBody s__law_points) (defScope s__law_points) [] [] (glAd "_law_points" K) fd) (m : mg "_law_points" = some (.ref (glAd "_law_points" K))) (nb : Nm w K mg) (c__law_next : Cal P w K mg base 1 "_law_next" (sp__law_next K) []) (c__law_many : Cal P w K mg base 2 "_law_many" (sp__law_many K) []) : Cal P w K mg base 3 "_law_points" (sp__law_points K) [] := by
  refine calD F m sc__law_points (fun _ _ _ _ _ _ us hl => match us, hl with | [_], _ => rfl) len1 (fun cdv A outer s H vs Q E hr h => ⟨_, (pss_cons (ps_set (i := 1) sc__law_points.nd rfl (Or.inl rfl) (pe_lstE (pa_cons pe_int (pa_cons pe_int (pa_cons pe_int (pa_cons pe_int (pa_cons pe_int (pa_cons pe_int (pa_cons pe_int (pa_cons pe_int (pa_cons pe_int (pa_cons pe_int (pa_cons pe_int (pa_cons pe_int (pa_cons pe_int (pa_cons pe_int (pa_cons pe_int (pa_cons pe_int (pa_cons pe_int (pa_cons pe_int (pa_cons pe_int (pa_cons pe_int (pa_cons pe_int (pa_cons pe_int pa_nil))))))))))))))))))))))))
    (pss_cons (ps_set (i := 2) sc__law_points.nd rfl (Or.inl rfl) (pe_lstE pa_nil))
    (pss_cons (ps_for PassesOwn.never rfl (pi_range1 rfl nb.range (pa_cons (pe_c c__law_many hr (by decide) rfl (pa_cons (pv 0) (pa_cons pe_int pa_nil))) pa_nil)) (pg_name (i := 3) sc__law_points.nd rfl (Or.inl rfl))
    (pss_cons (ps_set (i := 4) sc__law_points.nd rfl (Or.inl rfl) (pe_c c__law_next hr (by decide) rfl (pa_cons (pv 0) (pa_cons pe_int pa_nil))))
    (pss_cons (ps_set (i := 5) sc__law_points.nd rfl (Or.inl rfl) (pe_op op_add pe_int (pe_c c__law_next hr (by decide) rfl (pa_cons (pv 0) (pa_cons pe_int pa_nil)))))
    (pss_cut (ps_if (pt_cmpR op_eq (pv 4) pe_int (nomark _))
    (pss_one (ps_set (i := 5) sc__law_points.nd rfl (Or.inl rfl) (pe_ix ix_list (pv 1) (pe_c c__law_next hr (by decide) rfl (pa_cons (pv 0) (pa_cons pe_int pa_nil))) (fun _ _ => rfl))))
    (pss_one (ps_if (pt_cmpR op_eq (pv 4) pe_int (nomark _))
    (pss_one (ps_set (i := 5) sc__law_points.nd rfl (Or.inl rfl) (pe_c c__law_next hr (by decide) rfl (pa_cons (pv 0) (pa_cons pe_int pa_nil)))))
    (pss_one (ps_if (pt_cmpR op_eq (pv 4) pe_int (nomark _))
    (pss_cons (ps_set (i := 5) sc__law_points.nd rfl (Or.inl rfl) (pe_op op_add (pe_op op_add (pe_op op_mul pe_int (pe_c c__law_next hr (by decide) rfl (pa_cons (pv 0) (pa_cons pe_int pa_nil)))) (pe_c c__law_next hr (by decide) rfl (pa_cons (pv 0) (pa_cons pe_int pa_nil)))) (pe_op op_mul pe_int (pe_c c__law_next hr (by decide) rfl (pa_cons (pv 0) (pa_cons pe_int pa_nil))))))
    (pss_one (ps_set (i := 5) sc__law_points.nd rfl (Or.inl rfl) (pe_op op_add (pv 5) (pe_op op_mul pe_int (pe_callTy call_int1 (by rfl) nb.int (by decide +kernel) (pa_cons (pe_cmpR op_gt (pv 5) pe_int (nomark _)) pa_nil)))))))
    pss_nil)))))
    (pss_one (ps_expr (pe_bm PySem.F.plainAttrs_list PySem.F.slot_list_append PySem.F.type_list_append mt_append (pv 2) (pa_cons (pv 5) pa_nil))))))))
    (pss_one (ps_ret (pe_callTy call_tuple_ofE (by rfl) nb.tuple (by decide +kernel) (pa_cons (pv 2) pa_nil))))))), ?_⟩)
  obtain ⟨_, rfl, S, l, rfl, L, h⟩ := h
  walk_at "rf"
  refine ⟨by show 22 ≤ sizeLine; decide, fun pm H1 nm g1 s1 => ?_⟩
  have L1 := L.same s1
  have ne1 := L.ne_free nm
  walk_at "rf"
  refine ⟨by show 0 ≤ sizeLine; decide, fun q H2 nq g2 s2 => ?_⟩
  have L2 := L1.same s2
  have ne2 := L1.ne_free nq
  have pq : pm ≠ q := Same.ne nq g1
  have nq0 : H q = none := s1.free nq
  walk_at "rf"
  refine ⟨_, _, rfl, S, l, 140, rfl, rfl, by decide, L2, fun many H3 a3 b3 L3 k3 => ?_⟩
  have g13 := k3 _ _ ne1 (s2 _ _ g1)
  have g23 := k3 _ _ ne2 g2
  have kk3 : Keep S H H3 := (Keep.of (s1.trans s2)).trans k3
  walk_at "rf"
  refine r_turns (by omega) (by omega) (fun i σ H' => LB K S l H' ∧ Keep S H H' ∧ i ≤ 139 ∧ ∃ (ps : List Int) (y3 y4 y5 : Option V), ps.length = i ∧ (∀ c ∈ ps, Point c) ∧ H' pm = some (.lst (menu22.map V.int)) ∧ H' q = some (.lst (ps.map V.int)) ∧ σ = [some (.ref S.a), some (.ref pm), some (.ref q), y3, y4, y5]) ⟨L3, kk3, Nat.zero_le _, [], _, _, _, rfl, (fun c h => by cases h), g13, g23, rfl⟩ ?_ ?_
  · rintro i σ H4 hi ⟨L4, k4, hi2, ps, y3, y4, y5, hl, hp, g4, q4, rfl⟩
    have put : ∀ (H5 : Hp) (c : Int) (z4 z5 : Option V), LB K S l H5 → Keep S H4 H5 → Point c → ∀ H6, H6 q = some (.lst (ps.map V.int ++ [.int c])) → Eb q H5 H6 → LB K S l H6 ∧ Keep S H H6 ∧ i + 1 ≤ 139 ∧ ∃ (ps : List Int) (y3 y4 y5 : Option V), ps.length = i + 1 ∧ (∀ c ∈ ps, Point c) ∧ H6 pm = some (.lst (menu22.map V.int)) ∧ H6 q = some (.lst (ps.map V.int)) ∧ [some (V.ref S.a), some (.ref pm), some (.ref q), some (.int (i : Nat)), z4, z5] = [some (.ref S.a), some (.ref pm), some (.ref q), y3, y4, y5] := fun H5 c z4 z5 L5 k5 hc H6 g6 f6 => by
      have e6 : H6 = upd H5 q (.lst (ps.map V.int ++ [.int c])) := by
        funext b
        by_cases hb : b = q
        · rw [hb, g6, upd_same]
        · rw [f6.1 b hb, upd_ne hb]
      subst e6
      refine ⟨L.away nq0 L5 _, keep_away (k4.trans k5) nq0, by omega, ps ++ [c], _, z4, z5, by rw [List.length_append, hl]; rfl, fun d hd => ?_, f6.get pq (k5 _ _ ne1 g4), by rw [g6, map_snoc], rfl⟩
      rcases List.mem_append.mp hd with z | z
      · exact hp d z
      · rw [List.mem_singleton.mp z]; exact hc
    walk_at "rf"
    refine b_next L4 (by decide) fun pick H5 a5 b5 L5 k5 => ?_
    walk_at "rf"
    refine b_next L5 (by decide) fun r6 H6 a6 b6 L6 k6 => ?_
    have k6 := k5.trans k6
    have sm : (ps.map V.int).length < sizeLine := small1000 (by rw [List.length_map]; omega)
    walk_at "rf"
    refine r_cut (fun σ H' => LB K S l H' ∧ Keep S H4 H' ∧ ∃ c, Point c ∧ ∃ y4, σ = [some (.ref S.a), some (.ref pm), some (.ref q), some (.int (i : Nat)), y4, some (.int c)]) ?_ ?_
    · walk_at "rf"
      refine r_ite (fun c => ?_) (fun c => ?_)
      · walk_at "rf"
        refine b_next L6 (by decide) fun r7 H7 a7 b7 L7 k7 => ?_
        obtain ⟨v, hv, ev⟩ := atI_ints (ns := menu22) (k := r7) a7 b7
        have g7 := k7 _ _ ne1 (k6 _ _ ne1 g4)
        walk_at "rf"
        refine r_ixL (SqL.of g7) ev ?_
        walk_at "rf"
        exact ⟨L7, k6.trans k7, v, menu22_in v hv, _, rfl⟩
      walk_at "rf"
      refine r_ite (fun c => ?_) (fun c => ?_)
      · walk_at "rf"
        refine b_next L6 (by decide) fun r7 H7 a7 b7 L7 k7 => ?_
        walk_at "rf"
        exact ⟨L7, k6.trans k7, r7, pt_low a7 (by omega), _, rfl⟩
      walk_at "rf"
      refine r_ite (fun c => ?_) (fun c => ?_)
      · walk_at "rf"
        refine b_next L6 (by decide) fun r7 H7 a7 b7 L7 k7 => ?_
        walk_at "rf"
        refine b_next L7 (by decide) fun r8 H8 a8 b8 L8 k8 => ?_
        walk_at "rf"
        refine b_next L8 (by decide) fun r9 H9 a9 b9 L9 k9 => ?_
        walk_at "rf"
        refine .inr ⟨_, rfl, ?_⟩
        walk_at "rf"
        refine ⟨L9, ((k6.trans k7).trans k8).trans k9, _, ?_, _, rfl⟩
        unfold Point
        split
        · rename_i z
          have z := of_decide_eq_true z
          omega
        · rename_i z
          have z : ¬ _ := fun q => z (decide_eq_true q)
          omega
      · walk_at "rf"
        exact ⟨L6, k6, _, pt_low (by omega) (by omega), _, rfl⟩
    · rintro σ H7 ⟨L7, k7, c, hc, y4, rfl⟩
      walk_at "rf"
      refine ⟨tyL (k7 _ _ ne2 q4), ?_⟩
      walk_at "rf"
      refine r_appE (k7 _ _ ne2 q4) sm fun H8 g8 f8 => ?_
      exact put H7 c y4 _ L7 k7 hc H8 g8 f8
  · rintro σ H4 ⟨L4, k4, hi2, ps, y3, y4, y5, hl, hp, g4, q4, rfl⟩
    walk_at "rf"
    refine r_toT (SqL.of q4) fun t H5 nt g5 s5 => ?_
    exact h t ps H5 g5 ⟨by omega, hp⟩ (L4.same s5) (k4.trans (Keep.of s5))
theorem ok__law_octets (F : FunD K "_law_octets" "_law_octets" (defArgs s__law_octets) (defBody s__law_octets) (defScope s__law_octets) [] [] (glAd "_law_octets" K) fd) (m : mg "_law_octets" = some (.ref (glAd "_law_octets" K))) (nb : Nm w K mg) (c__law_next : Cal P w K mg base 1 "_law_next" (sp__law_next K) []) (c__law_many : Cal P w K mg base 2 "_law_many" (sp__law_many K) []) : Cal P w K mg base 3 "_law_octets" (sp__law_octets K) [] := by
  refine calD F m sc__law_octets (fun _ _ _ _ _ _ us hl => match us, hl with | [_], _ => rfl) len1 (fun cdv A outer s H vs Q E hr h => ⟨_, (pss_cons (ps_set (i := 1) sc__law_octets.nd rfl (Or.inl rfl) (pe_c c__law_many hr (by decide) rfl (pa_cons (pv 0) (pa_cons pe_int pa_nil))))
    (pss_cons (ps_asg (pe_ix ix_list (pe_lstE (pa_cons (pe_tupE (pa_cons pe_int (pa_cons pe_int pa_nil))) (pa_cons (pe_tupE (pa_cons pe_int (pa_cons pe_int pa_nil))) (pa_cons (pe_tupE (pa_cons pe_int (pa_cons pe_int pa_nil))) (pa_cons (pe_tupE (pa_cons pe_int (pa_cons pe_int pa_nil))) (pa_cons (pe_tupE (pa_cons pe_int (pa_cons pe_int pa_nil))) pa_nil)))))) (pe_c c__law_next hr (by decide) rfl (pa_cons (pv 0) (pa_cons pe_int pa_nil))) (fun _ _ => rfl)) (pg_tup rfl (pgs_cons (pg_name (i := 2) sc__law_octets.nd rfl (Or.inr rfl)) (pgs_cons (pg_name (i := 3) sc__law_octets.nd rfl (Or.inr rfl)) pgs_nil))))
    (pss_one (ps_ret (pe_callTy call_tuple_ofE (by rfl) nb.tuple (by decide +kernel) (pa_cons (pe_lc (own := [("k", 4)]) (g := gName 4) (tt := tYes) rfl sc__law_octets.nd (pi_range1 rfl nb.range (pa_cons (pv 1) pa_nil)) (blkOk_by (N := ["state", "many", "low", "span", "k"]) (sc := defScope s__law_octets) (by decide +kernel)) (fun _ _ _ _ _ => pg_name (i := 4) sc__law_octets.nd rfl (Or.inl rfl)) (fun _ _ _ _ _ => pts_nil) (fun _ _ _ _ _ => (pe_op op_add (pv 2) (pe_c c__law_next hr (by decide) rfl (pa_cons (pv 0) (pa_cons (pv 3) pa_nil)))))) pa_nil)))))), ?_⟩)
  obtain ⟨_, rfl, S, l, rfl, L, h⟩ := h
  walk_at "rf"
  refine ⟨_, _, rfl, S, l, 280, rfl, rfl, by decide, L, fun m H3 hm0 hm1 L3 k3 => ?_⟩
  walk_at "rf"
  refine ⟨by show 2 ≤ sizeLine; decide, fun t1 H4 n1 g1 s1 => ?_⟩
  walk_at "rf"
  refine ⟨by show 2 ≤ sizeLine; decide, fun t2 H5 n2 g2 s2 => ?_⟩
  walk_at "rf"
  refine ⟨by show 2 ≤ sizeLine; decide, fun t3 H6 n3 g3 s3 => ?_⟩
  walk_at "rf"
  refine ⟨by show 2 ≤ sizeLine; decide, fun t4 H7 n4 g4 s4 => ?_⟩
  walk_at "rf"
  refine ⟨by show 2 ≤ sizeLine; decide, fun t5 H8 n5 g5 s5 => ?_⟩
  walk_at "rf"
  refine ⟨by show 5 ≤ sizeLine; decide, fun p9 H9 n9 g9 s9 => ?_⟩
  have L9 := L3.same (((((s1.trans s2).trans s3).trans s4).trans s5).trans s9)
  have k9 := k3.trans (Keep.of (((((s1.trans s2).trans s3).trans s4).trans s5).trans s9))
  have ne9 := (L3.same ((((s1.trans s2).trans s3).trans s4).trans s5)).ne_free n9
  have G1 := s9 _ _ (s5 _ _ (s4 _ _ (s3 _ _ (s2 _ _ g1))))
  have G2 := s9 _ _ (s5 _ _ (s4 _ _ (s3 _ _ g2)))
  have G3 := s9 _ _ (s5 _ _ (s4 _ _ g3))
  have G4 := s9 _ _ (s5 _ _ g4)
  have G5 := s9 _ _ g5
  walk_at "rf"
  refine b_next L9 (by decide) fun r H10 a10 b10 L10 k10 => ?_
  have tk := keep_tk L9.ls k10
  obtain ⟨t, lo, sp, et, ht, hsp, hlo, hhi⟩ : ∃ t lo sp, atI [V.ref t1, .ref t2, .ref t3, .ref t4, .ref t5] r = some (V.ref t) ∧ H10 t = some (.tup [.int lo, .int sp]) ∧ 0 < sp ∧ 0 ≤ lo ∧ lo + sp ≤ 256 := by
    have : r = 0 ∨ r = 1 ∨ r = 2 ∨ r = 3 ∨ r = 4 := by omega
    rcases this with e | e | e | e | e <;> subst e
    · exact ⟨t1, 0, 256, rfl, tk _ _ G1, by decide, by decide, by decide⟩
    · exact ⟨t2, 32, 95, rfl, tk _ _ G2, by decide, by decide, by decide⟩
    · exact ⟨t3, 97, 26, rfl, tk _ _ G3, by decide, by decide, by decide⟩
    · exact ⟨t4, 42, 49, rfl, tk _ _ G4, by decide, by decide, by decide⟩
    · exact ⟨t5, 48, 10, rfl, tk _ _ G5, by decide, by decide, by decide⟩
  have k10' := k9.trans k10
  refine r_ixL (SqL.of (k10 _ _ ne9 g9)) et ?_
  refine r_gtup (SqT.of ht) rfl ?_
  walk_at "rf"
  refine ⟨by omega, by omega, fun D nD => ?_⟩
  have DS := L10.ne_free nD
  have nD0 : H D = none := k10'.free L10.ls nD
  refine lc_range (fun i H' => LB K S l H' ∧ Keep S H H' ∧ i ≤ 279 ∧ ∃ cs : List Int, cs.length = i ∧ (∀ c ∈ cs, 0 ≤ c ∧ c ≤ 255) ∧ H' D = some (.lst (cs.map V.int))) ⟨L10.new nD _, k10'.trans (Keep.of (same_upd nD _)), Nat.zero_le _, [], rfl, (fun c h => by cases h), upd_same⟩ ?_ ?_
  · rintro i H11 hi ⟨L11, k11, hi2, cs, e1, eo, e2⟩
    walk_at "rf"
    refine ⟨rfl, ?_⟩
    walk_at "rf"
    refine b_next L11 hsp fun c H12 a12 b12 L12 k12 => ?_
    walk_at "rf"
    refine ⟨_, k12 _ _ DS e2, small1000 (by rw [List.length_map]; omega), L10.away nD L12 _, keep_away (k11.trans k12) nD0, by omega, cs ++ [lo + c], by rw [List.length_append, e1]; rfl, fun x hx => ?_, by rw [upd_same, map_snoc]⟩
    rcases List.mem_append.mp hx with z | z
    · exact eo x z
    · rw [List.mem_singleton.mp z]
      omega
  rintro H11 ⟨L11, k11, hi2, cs, e1, eo, e2⟩
  walk_at "rf"
  refine r_toT (SqL.of e2) fun t H12 nt g12 s12 => ?_
  exact h t cs H12 g12 ⟨by omega, eo⟩ (L11.same s12) (k11.trans (Keep.of s12))
theorem ok__law_leaf (F : FunD K "_law_leaf" "_law_leaf" (defArgs s__law_leaf) (defBody s__law_leaf) (defScope s__law_leaf) [] [] (glAd "_law_leaf" K) fd) (m : mg "_law_leaf" = some (.ref (glAd "_law_leaf" K))) (nb : Nm w K mg) (c__law_next : Cal P w K mg base 1 "_law_next" (sp__law_next K) []) (c__law_points : Cal P w K mg base 3 "_law_points" (sp__law_points K) []) (c__law_octets : Cal P w K mg base 3 "_law_octets" (sp__law_octets K) []) : Cal P w K mg base 4 "_law_leaf" (sp__law_leaf K) [] := by
  refine calD F m sc__law_leaf (fun _ _ _ _ _ _ us hl => match us, hl with | [_, _], _ => rfl) len2 (fun cdv A outer s H vs Q E hr h => ⟨_, (pss_cons (ps_set (i := 2) sc__law_leaf.nd rfl (Or.inl rfl) (pe_ix ix_list (pv 1) (pe_c c__law_next hr (by decide) rfl (pa_cons (pv 0) (pa_cons (pe_callB call_len_seq (by rfl) nb.len PySem.boot_len (pa_cons (pv 1) pa_nil)) pa_nil))) (fun _ _ => rfl)))
    (pss_cons (ps_if (pt_cmpR op_eq (pv 2) pe_str (nomark _))
    (pss_one (ps_ret (pe_tupE (pa_cons pe_str (pa_cons (pe_cmpR op_eq (pe_c c__law_next hr (by decide) rfl (pa_cons (pv 0) (pa_cons pe_int pa_nil))) pe_int (nomark _)) pa_nil)))))
    pss_nil)
    (pss_cons (ps_if (pt_cmpR op_eq (pv 2) pe_str (nomark _))
    (pss_one (ps_ret (pe_tupE (pa_cons pe_str (pa_cons (pe_op op_add pe_int (pe_op op_mul pe_int (pe_c c__law_next hr (by decide) rfl (pa_cons (pv 0) (pa_cons pe_int pa_nil))))) (pa_cons (pe_ix ix_list (pe_lstE (pa_cons pe_int (pa_cons pe_int (pa_cons pe_int (pa_cons (pe_un un_neg pe_int) pa_nil))))) (pe_c c__law_next hr (by decide) rfl (pa_cons (pv 0) (pa_cons pe_int pa_nil))) (fun _ _ => rfl)) pa_nil))))))
    pss_nil)
    (pss_cons (ps_if (pt_cmpR op_eq (pv 2) pe_str (nomark _))
    (pss_one (ps_ret (pe_tupE (pa_cons pe_str (pa_cons (pe_c c__law_octets hr (by decide) rfl (pa_cons (pv 0) pa_nil)) pa_nil)))))
    pss_nil)
    (pss_cons (ps_if (pt_cmpR op_eq (pv 2) pe_str (nomark _))
    (pss_one (ps_ret (pe_tupE (pa_cons pe_str (pa_cons (pe_c c__law_points hr (by decide) rfl (pa_cons (pv 0) pa_nil)) pa_nil)))))
    pss_nil)
    (pss_one (ps_ret (pe_tupE (pa_cons pe_str pa_nil))))))))), ?_⟩)
  obtain ⟨_, _, rfl, S, l, kl, ks, rfl, rfl, hne, hk, ⟨ks0, ksl, ksm⟩, L, h⟩ := h
  walk_at "rf"
  refine ⟨kl, _, rfl, .inl (SqL.of hk), ?_⟩
  rw [List.length_map]
  walk_at "rf"
  refine b_next L (by omega) fun r1 H1 a1 b1 L1 k1 => ?_
  have hk1 := k1 _ _ hne hk
  have hr : r1.toNat < ks.length := by omega
  have er : r1 = ((r1.toNat : Nat) : Int) := by omega
  have ex : atI (ks.map V.str) r1 = some (V.str ks[r1.toNat]) := by
    have q := atI_nat (xs := ks.map V.str) (j := r1.toNat) (v := V.str ks[r1.toNat]) (by rw [List.getElem?_map, List.getElem?_eq_getElem hr]; rfl)
    rw [← er] at q
    exact q
  have hm : ks[r1.toNat] ∈ ks := List.getElem_mem hr
  generalize ks[r1.toNat] = kk at ex hm
  refine r_ixL (SqL.of hk1) ex ?_
  rcases ksm kk hm with e | e | e | e | e <;> subst e
  · walk_at "rf"
    refine r_itep (show ("truth" : Str) = "truth" from rfl) ?_
    walk_at "rf"
    refine b_next L1 (by decide) fun r2 H2 a2 b2 L2 k2 => ?_
    walk_at "rf"
    refine ⟨by show 2 ≤ sizeLine; decide, fun q H3 nq g3 s3 => ?_⟩
    exact h (.ref q) "truth" [.bool (decide (r2 = 0))] H3 (.odd _ _ (by decide +kernel) (by decide +kernel) (by decide +kernel)) (.tup g3 (.cons (.str _) (.cons (.bl _) .nil))) (L2.same s3) ((k1.trans k2).trans (Keep.of s3))
  · walk_at "rf"
    refine r_iteN (show ¬ ("number" : Str) = "truth" by decide +kernel) ?_
    walk_at "rf"
    refine r_itep (show ("number" : Str) = "number" from rfl) ?_
    walk_at "rf"
    refine b_next L1 (by decide) fun r2 H2 a2 b2 L2 k2 => ?_
    refine r_I (.inl ⟨by omega, by omega⟩) ?_
    walk_at "rf"
    refine ⟨by show 4 ≤ sizeLine; decide, fun p3 H3 n3 g3 s3 => ?_⟩
    have g3 : H3 p3 = some (.lst (([0, 0, 3, -3] : List Int).map V.int)) := g3
    have L3 := L2.same s3
    walk_at "rf"
    refine b_next L3 (by decide) fun r4 H4 a4 b4 L4 k4 => ?_
    obtain ⟨v, _, ev⟩ := atI_ints (ns := [0, 0, 3, -3]) (k := r4) a4 b4
    refine r_ixL (SqL.of (k4 _ _ (L2.ne_free n3) g3)) ev ?_
    walk_at "rf"
    refine ⟨by show 3 ≤ sizeLine; decide, fun q H5 nq g5 s5 => ?_⟩
    exact h (.ref q) "number" [.int _, .int _] H5 (.odd _ _ (by decide +kernel) (by decide +kernel) (by decide +kernel)) (.tup g5 (.cons (.str _) (.cons (.int _) (.cons (.int _) .nil)))) (L4.same s5) ((((k1.trans k2).trans (Keep.of s3)).trans k4).trans (Keep.of s5))
  · walk_at "rf"
    refine r_iteN (show ¬ ("bytes" : Str) = "truth" by decide +kernel) ?_
    walk_at "rf"
    refine r_iteN (show ¬ ("bytes" : Str) = "number" by decide +kernel) ?_
    walk_at "rf"
    refine r_itep (show ("bytes" : Str) = "bytes" from rfl) ?_
    walk_at "rf"
    refine ⟨_, rfl, S, l, rfl, L1, fun p os H2 g2 ho L2 k2 => ?_⟩
    walk_at "rf"
    refine ⟨by show 2 ≤ sizeLine; decide, fun q H3 nq g3 s3 => ?_⟩
    exact h (.ref q) "bytes" _ H3 (.bytes os ho) (.tup g3 (.cons (.str _) (.cons (tp_kd (s3 _ _ g2)) .nil))) (L2.same s3) ((k1.trans k2).trans (Keep.of s3))
  · walk_at "rf"
    refine r_iteN (show ¬ ("text" : Str) = "truth" by decide +kernel) ?_
    walk_at "rf"
    refine r_iteN (show ¬ ("text" : Str) = "number" by decide +kernel) ?_
    walk_at "rf"
    refine r_iteN (show ¬ ("text" : Str) = "bytes" by decide +kernel) ?_
    walk_at "rf"
    refine r_itep (show ("text" : Str) = "text" from rfl) ?_
    walk_at "rf"
    refine ⟨_, rfl, S, l, rfl, L1, fun p os H2 g2 ho L2 k2 => ?_⟩
    walk_at "rf"
    refine ⟨by show 2 ≤ sizeLine; decide, fun q H3 nq g3 s3 => ?_⟩
    exact h (.ref q) "text" _ H3 (.odd _ _ (by decide +kernel) (by decide +kernel) (by decide +kernel)) (.tup g3 (.cons (.str _) (.cons (tp_kd (s3 _ _ g2)) .nil))) (L2.same s3) ((k1.trans k2).trans (Keep.of s3))
  · walk_at "rf"
    refine r_iteN (show ¬ ("null" : Str) = "truth" by decide +kernel) ?_
    walk_at "rf"
    refine r_iteN (show ¬ ("null" : Str) = "number" by decide +kernel) ?_
    walk_at "rf"
    refine r_iteN (show ¬ ("null" : Str) = "bytes" by decide +kernel) ?_
    walk_at "rf"
    refine r_iteN (show ¬ ("null" : Str) = "text" by decide +kernel) ?_
    walk_at "rf"
    refine ⟨by show 1 ≤ sizeLine; decide, fun q H3 nq g3 s3 => ?_⟩
    exact h (.ref q) "null" [] H3 (.odd _ _ (by decide +kernel) (by decide +kernel) (by decide +kernel)) (.tup g3 (.cons (.str _) .nil)) (L1.same s3) (k1.trans (Keep.of s3))
theorem ok__law_value (n : Nat) (F : FunD K "_law_value" "_law_value" (defArgs s__law_value) (defBody s__law_value) (defScope s__law_value) [] [] (glAd "_law_value" K) fd) (m : mg "_law_value" = some (.ref (glAd "_law_value" K))) (nb : Nm w K mg) (c__law_next : Cal P w K mg base 1 "_law_next" (sp__law_next K) []) (c__law_many : Cal P w K mg base 2 "_law_many" (sp__law_many K) []) (c__law_points : Cal P w K mg base 3 "_law_points" (sp__law_points K) []) (c__law_leaf : Cal P w K mg base 4 "_law_leaf" (sp__law_leaf K) []) (c__law_value : Cal P w K mg base (5 + n) "_law_value" (sp__law_value K n) []) : Cal P w K mg base (5 + n + 1) "_law_value" (sp__law_value K (n + 1)) [] := by
  refine calD F m sc__law_value (fun _ _ _ _ _ _ us hl => match us, hl with | [_, _, _, _], _ => rfl) len4 (fun cdv A outer s H vs Q E hr h => ⟨_, (pss_cons (ps_asg (pe_op op_sub (pe_ix ix_list (pv 0) pe_int (fun _ _ => rfl)) pe_int) (pg_sub (pv 0) pe_int set_list))
    (pss_cons (ps_set (i := 4) sc__law_value.nd rfl (Or.inl rfl) (pe_c c__law_next hr (by omega) rfl (pa_cons (pv 0) (pa_cons pe_int pa_nil))))
    (pss_cons (ps_if (PW.pt (pw_or (pt_cmpR op_eq (pv 1) pe_int (nomark _)) (pw_or (pt_cmpR op_le (pe_ix ix_list (pv 0) pe_int (fun _ _ => rfl)) pe_int (nomark _)) (pw_or1 (pt_cmpR op_lt (pv 4) pe_int (nomark _))))))
    (pss_one (ps_ret (pe_c c__law_leaf hr (by omega) rfl (pa_cons (pv 0) (pa_cons (pv 2) pa_nil)))))
    pss_nil)
    (pss_cons (ps_set (i := 5) sc__law_value.nd rfl (Or.inl rfl) (pe_c c__law_many hr (by omega) rfl (pa_cons (pv 0) (pa_cons pe_int pa_nil))))
    (pss_cons (ps_if (PW.pt (pw_or (pt_cmpR op_eq (pv 4) pe_int (nomark _)) (pw_or1 (pt_not (pt_val (pv 3))))))
    (pss_one (ps_ret (pe_tup (pa_cons pe_str (pa_cons (pe_callTy call_tuple_of (by rfl) nb.tuple (by decide +kernel) (pa_cons (pe_lc (own := [("k", 6)]) (g := gName 6) (tt := tYes) rfl sc__law_value.nd (pi_range1 rfl nb.range (pa_cons (pv 5) pa_nil)) (blkOk_by (N := ["state", "deep", "kinds", "has_maps", "pick", "many", "k", "entries", "key", "entry"]) (sc := defScope s__law_value) (by decide +kernel)) (fun _ _ _ _ _ => pg_name (i := 6) sc__law_value.nd rfl (Or.inl rfl)) (fun _ _ _ _ _ => pts_nil) (fun _ _ _ _ _ => (pe_c c__law_value hr (by omega) rfl (pa_cons (pv 0) (pa_cons (pe_op op_sub (pv 1) pe_int) (pa_cons (pv 2) (pa_cons (pv 3) pa_nil))))))) pa_nil)) pa_nil)))))
    pss_nil)
    (pss_cons (ps_set (i := 7) sc__law_value.nd rfl (Or.inl rfl) (pe_lst pa_nil))
    (pss_cons (ps_for PassesOwn.never rfl (pi_range1 rfl nb.range (pa_cons (pv 5) pa_nil)) (pg_name (i := 6) sc__law_value.nd rfl (Or.inl rfl))
    (pss_cons (ps_set (i := 8) sc__law_value.nd rfl (Or.inl rfl) (pe_c c__law_points hr (by omega) rfl (pa_cons (pv 0) pa_nil)))
    (pss_one (ps_if (pt_cmpR (op_notInD (hu65 hr)) (pv 8) (pe_lc (own := [("entry", 9)]) (g := gName 9) (tt := tYes) rfl sc__law_value.nd (pi_list (pv 7)) (blkOk_by (N := ["state", "deep", "kinds", "has_maps", "pick", "many", "k", "entries", "key", "entry"]) (sc := defScope s__law_value) (by decide +kernel)) (fun _ _ _ _ _ => pg_name (i := 9) sc__law_value.nd rfl (Or.inl rfl)) (fun _ _ _ _ _ => pts_nil) (fun _ _ _ _ _ => (pe_ix (show IxR _ (rIxT K) from ix_tup) (pv 9) pe_int (fun _ _ => rfl)))) rfl)
    (pss_one (ps_expr (pe_bm PySem.F.plainAttrs_list PySem.F.slot_list_append PySem.F.type_list_append mt_append (pv 7) (pa_cons (pe_tup (pa_cons (pv 8) (pa_cons (pe_c c__law_value hr (by omega) rfl (pa_cons (pv 0) (pa_cons (pe_op op_sub (pv 1) pe_int) (pa_cons (pv 2) (pa_cons (pv 3) pa_nil))))) pa_nil))) pa_nil))))
    pss_nil))))
    (pss_one (ps_ret (pe_tup (pa_cons pe_str (pa_cons (pe_callTy call_tuple_of (by rfl) nb.tuple (by decide +kernel) (pa_cons (pe_callB (cr_sortedE hr.units) (by rfl) nb.sorted (by decide +kernel) (pa_cons (pv 7) pa_nil)) pa_nil)) pa_nil)))))))))))), ?_⟩)
  obtain ⟨_, _, _, _, rfl, S, l0, deep, kl, ks, mp, rfl, rfl, rfl, rfl, hkn, hk, hks, hd, L, h⟩ := h
  obtain ⟨k0, f5, e⟩ := L.at_
  walk_at "rd"
  refine r_ixL (SqL.of e) rfl ?_
  walk_at "rd"
  refine r_setL e rfl ?_
  walk_at "rd"
  have L1 := L.put k0 (l0 - 1) f5
  have kk1 : Keep S H (upd H S.a (.lst [.ref S.nl, .int k0, .int (l0 - 1), .ref S.sl, .int f5])) := Keep.put _
  refine b_next L1 (by decide) fun pick H2 a2 b2 L2 k2 => ?_
  have k2 := kk1.trans k2
  clear L1 kk1
  obtain ⟨k0', f5', e2⟩ := L2.at_
  walk_at "ri"
  refine r_ifB (decide (deep = 0 ∨ l0 - 1 ≤ 0 ∨ pick < 2)) ?_ ?_
  · intro R hR
    walk_at "rd"
    refine r_ite (fun c => ?_) (fun c => ?_)
    · walk_at "rd"
      rw [decide_eq_true (.inl (by omega))] at hR
      exact hR
    walk_at "rd"
    refine r_ixL (SqL.of e2) rfl ?_
    walk_at "rd"
    refine r_ite (fun c2 => ?_) (fun c2 => ?_)
    · walk_at "rd"
      rw [decide_eq_true (.inr (.inl c2))] at hR
      exact hR
    walk_at "rd"
    have ed : decide (pick < 2) = decide (deep = 0 ∨ l0 - 1 ≤ 0 ∨ pick < 2) := decide_eq_decide.mpr ⟨fun q => .inr (.inr q), fun q => by omega⟩
    rw [ed]
    exact hR
  refine r_ite (fun c => ?_) (fun c => ?_)
  · walk_at "rd"
    exact ⟨_, _, rfl, S, _, kl, ks, rfl, rfl, hkn, k2 _ _ hkn hk, hks, L2, fun v k r H3 hl hv L3 k3 => h v (.lf k r) _ H3 (gf_leaf hl _) (bud_leaf (Nat.le_refl _)) hv L3 (k2.trans k3)⟩
  obtain ⟨deep, rfl⟩ : ∃ d, deep = d + 1 := ⟨deep - 1, by omega⟩
  have ed : ((deep + 1 : Nat) : Int) - 1 = ((deep : Nat) : Int) := by omega
  have hl0 : 0 < l0 - 1 := by omega
  clear e2
  walk_at "rd"
  refine ⟨_, _, rfl, S, _, 30, rfl, rfl, by decide, L2, fun m H4 hm0 hm1 L4 k4 => ?_⟩
  have k4 := k2.trans k4
  clear L2 k2
  walk_at "ri"
  refine r_ifB (decide (pick = 2 ∨ mp = false)) (fun R hR => ?_) ?_
  · walk_at "rd"
    refine r_ite (fun c => ?_) (fun c => ?_)
    · rw [decide_eq_true (.inl c)] at hR
      exact hR
    · have e : decide (pick = 2 ∨ mp = false) = !mp := by
        cases mp
        · exact decide_eq_true (.inr rfl)
        · exact decide_eq_false (fun z => z.elim c fun z => by cases z)
      rw [e] at hR
      walk_at "rd"
      exact hR
  refine r_ite (fun c => ?_) (fun c => ?_)
  · walk_at "rd"
    refine ⟨by omega, by omega, fun D nD => ?_⟩
    have DS := L4.ne_free nD
    have nD0 : H D = none := k4.free L4.ls nD
    refine lc_range (fun i H' => ∃ l' : Int, LB K S l' H' ∧ Keep S H H' ∧ ∃ (vs : List V) (ts : List Vl), ts.length = i ∧ BudL (l0 - 1) l' (vszL ts) i ∧ gfL deep ts ∧ TpAll H' vs (datL ts) ∧ H' D = some (.lst vs)) ⟨_, L4.new nD _, k4.trans (Keep.of (same_upd nD _)), [], [], rfl, budL_nil _, trivial, .nil, upd_same⟩ ?_ ?_
    · rintro i H5 hi ⟨l1, L5, k5, vs, ts, e1, eb, e2, e3, e4⟩
      walk_at "rd"
      refine ⟨rfl, ?_⟩
      walk_at "rd"
      refine ⟨_, _, _, _, rfl, S, l1, deep, kl, ks, mp, rfl, congrArg V.int ed, rfl, rfl, hkn, k5 _ _ hkn hk, hks, by omega, L5, fun v t l2 H6 ok bd tp L6 k6 => ?_⟩
      have hD6 := k6 _ _ DS e4
      have hl : vs.length = i := by rw [tpAll_len e3, datL_map, List.length_map, e1]
      have tk6 := (keep_tk L5.ls k6).trans (tk_put (o := .lst (vs ++ [v])) hD6)
      refine ⟨vs, hD6, small1000 (by omega), l2, L4.away nD L6 _, keep_away (k5.trans k6) nD0, vs ++ [v], ts ++ [t], by rw [List.length_append, e1]; rfl, by rw [vszL_app]; exact budL_cons eb bd, gfL_app e2 ⟨ok, trivial⟩, ?_, upd_same⟩
      rw [datL_app]
      exact tpAll_app (TpAll.tk tk6 _ _ e3) (.cons (Tp.tk (tk_put hD6) _ _ tp) .nil)
    · rintro H5 ⟨l1, L5, k5, vs, ts, e1, eb, e2, e3, e4⟩
      walk_at "rd"
      refine ⟨D, _, rfl, .inl ⟨SqL.of e4, fun t nt => ?_⟩⟩
      walk_at "rd"
      refine ⟨by show 2 ≤ sizeLine; decide, fun q nq => ?_⟩
      have s7 := (same_upd nt (.tup vs)).trans (same_upd nq (.tup [.str "list", .ref t]))
      refine h (.ref q) (.ls ts) _ _ ⟨by omega, e2⟩ (bud_node hl0 (by omega) eb) (.tup upd_same (.cons (.str _) (.cons (.tup (same_upd nq _ _ _ upd_same) (TpAll.tk (Same.tk s7) _ _ e3)) .nil))) (L5.same s7) (k5.trans (Keep.of s7))
  · skip
    walk_at "rd"
    refine ⟨Nat.zero_le _, fun D nD => ?_⟩
    have DS := L4.ne_free nD
    have nD0 : H D = none := k4.free L4.ls nD
    walk_at "rd"
    refine r_turns (by omega) (by omega) (fun i σ H' => ∃ l' : Int, LB K S l' H' ∧ Keep S H H' ∧ ∃ (es : List (Ent × Vl)) (y4 y6 y7 : Option V), es.length ≤ i ∧ BudL (l0 - 1) l' ((es.map fun e => vsz e.2).sum) es.length ∧ (∀ e ∈ es, EvF H' deep e) ∧ (es.map (·.1.k)).Nodup ∧ H' D = some (.lst (es.map fun e => V.ref e.1.t)) ∧ σ = [some (.ref S.a), some (.int (deep + 1 : Nat)), some (.ref kl), some (.bl mp), some (.int pick), some (.int m), y4, some (.ref D), y6, y7])
      ⟨_, L4.new nD _, k4.trans (Keep.of (same_upd nD _)), [], _, _, _, Nat.le_refl _, budL_nil _, fun _ h => absurd h (by simp), List.nodup_nil, upd_same, rfl⟩ ?_ ?_
    · rintro i σ H5 hi ⟨l1, L5, k5, es, y4, y6, y7, e1, eb, e2, e3, e4, rfl⟩
      walk_at "rd"
      refine ⟨_, rfl, S, l1, rfl, L5, fun q ps H6 hq hpl L6 k6 => ?_⟩
      have hD6 := k6 _ _ DS e4
      have e2 : ∀ e ∈ es, EvF H6 deep e := fun e he => (e2 e he).tk (keep_tk L5.ls k6)
      have k6 := k5.trans k6
      clear L5 k5 e4
      walk_at "rd"
      refine ⟨D, rfl, ⟨_, SqL.of hD6⟩, fun D2 nD2 => ?_⟩
      refine lc_list (xs := es.map fun e => V.ref e.1.t) (fun j H' => Same H6 H' ∧ H' D2 = some (.lst ((es.take j).map fun e => V.ref e.1.q))) ⟨same_upd nD2 _, upd_same⟩ (fun j H' _ hh => SqL.of (hh.1 _ _ hD6)) ?_ ?_
      · rintro j x H7 hx ⟨s7, g7⟩
        obtain ⟨en, hj, rfl, et⟩ := map_get hx
        walk_at "rd"
        refine ⟨rfl, ?_⟩
        walk_at "rd"
        refine r_ixT (SqT.of (s7 _ _ (e2 en (List.mem_of_getElem? hj)).1.1)) rfl ?_
        refine ⟨_, g7, small1000 (by rw [List.length_map, List.length_take]; omega), same_away s7 nD2, ?_⟩
        rw [upd_same, et, List.map_append]
        rfl
      rintro H7 ⟨s7, g7⟩
      rw [List.length_map, List.take_length] at g7
      have L7 := L6.same s7
      have k7 := k6.trans (Keep.of s7)
      have hD7 := s7 _ _ hD6
      have hq7 := s7 _ _ hq
      have e2 : ∀ e ∈ es, EvF H7 deep e := fun e he => (e2 e he).tk (Same.tk s7)
      clear L6 k6 hD6 hq s7
      refine ⟨kd ps, (es.map (·.1.k)).map kd, Tp.dp _ _ (tp_kd hq7), .lst (SqL.of g7) ?_, shaped_kd ps, shaped_kds _, ?_⟩
      · rw [List.map_map]
        exact dpa_map fun e he => Tp.dp _ _ (tp_kd (e2 e he).1.2)
      rw [eqv_kds]
      refine r_bl (r_iten (fun c => ?_) (fun c => ?_))
      · walk_at "rd"
        refine ⟨tyL hD7, ?_⟩
        walk_at "rd"
        refine ⟨_, _, _, _, rfl, S, l1, deep, kl, ks, mp, rfl, congrArg V.int ed, rfl, rfl, hkn, k7 _ _ hkn hk, hks, by omega, L7, fun v t l2 H8 ok bd tp L8 k8 => ?_⟩
        obtain ⟨u, rfl⟩ := vl_ref tp
        have tk8 := keep_tk L7.ls k8
        have hD8 := k8 _ _ DS hD7
        walk_at "rd"
        refine ⟨by show 2 ≤ sizeLine; decide, fun T nT => ?_⟩
        have s9 := same_upd nT (.tup [.ref q, .ref u])
        have hD9 := s9 _ _ hD8
        have L9 := L8.new nT (.tup [.ref q, .ref u])
        walk_at "rd"
        refine r_app hD9 (small1000 (by rw [List.length_map]; omega)) ?_
        have tk9 := (Same.tk s9).trans (tk_put (o := .lst ((es.map fun e => V.ref e.1.t) ++ [.ref T])) hD9)
        refine ⟨l2, L4.away nD L9 _, keep_away ((k7.trans k8).trans (Keep.of s9)) nD0, es ++ [(⟨T, q, u, ps⟩, t)], _, _, _, by rw [List.length_append]; show es.length + 1 ≤ i + 1; omega, ?_, fun e he => ?_, ?_, ?_, rfl⟩
        · rw [List.map_append, List.sum_append, List.length_append]
          exact budL_cons eb bd
        · rcases List.mem_append.mp he with q1 | q1
          · exact (e2 e q1).tk (tk8.trans tk9)
          · have e5 : e = (⟨T, q, u, ps⟩, t) := by simpa using q1
            subst e5
            exact ⟨⟨tk_put hD9 _ _ upd_same, tk9 _ _ (tk8 _ _ hq7)⟩, Tp.tk tk9 _ _ tp, ok, hpl⟩
        · rw [List.map_append, List.nodup_append]
          refine ⟨e3, by simp, ?_⟩
          intro a ha b hb
          have eb : b = ps := by simpa using hb
          rw [eb]
          exact fun z => c (z ▸ ha)
        · rw [upd_same, List.map_append]
          rfl
      · walk_at "rd"
        exact ⟨l1, L7, k7, es, _, _, _, by omega, eb, e2, e3, hD7, rfl⟩
    · rintro σ H5 ⟨l1, L5, k5, es, y4, y6, y7, e1, eb, e2, e3, e4, rfl⟩
      walk_at "rd"
      refine ⟨D, es.map (·.1), rfl, ?_, fun e he => ?_, ?_, fun es' l' pe srt nl => ?_⟩
      · rw [List.map_map]
        exact SqL.of e4
      · obtain ⟨x, hx, rfl⟩ := List.mem_map.mp he
        exact (e2 x hx).1
      · rw [List.map_map]
        exact e3
      obtain ⟨zs, pz, rfl⟩ := perm_up (fun e : Ent × Vl => e.1) pe
      walk_at "rd"
      refine ⟨l', _, rfl, .inl ⟨SqL.of upd_same, fun t nt => ?_⟩⟩
      walk_at "rd"
      refine ⟨by show 2 ≤ sizeLine; decide, fun q nq => ?_⟩
      have s7 := ((same_upd nl (.lst ((zs.map fun e => e.1).map fun e => V.ref e.t))).trans (same_upd nt (.tup ((zs.map fun e => e.1).map fun e => V.ref e.t)))).trans (same_upd nq (.tup [.str "map", .ref t]))
      have e7 : ∀ e ∈ zs, EvF _ deep e := fun e he => (e2 e (pz.mem_iff.mp he)).tk (Same.tk s7)
      have ezl := pz.length_eq
      have ezs : (zs.map fun e => vsz e.2).sum = (es.map fun e => vsz e.2).sum := (pz.map _).sum_nat
      refine h (.ref q) (.mp (zs.map fun e => (e.1.k, e.2))) _ _ ⟨?_, ?_, ?_⟩ ?_ (.tup upd_same (.cons (.str _) (.cons (.tup (same_upd nq _ _ _ upd_same) ?_) .nil))) (L5.same s7) (k5.trans (Keep.of s7))
      · rw [List.length_map, ezl]
        omega
      · intro e he
        obtain ⟨x, hx, rfl⟩ := List.mem_map.mp he
        exact (e7 x hx).2.2.2
      · refine gfM_of fun e he => ?_
        obtain ⟨x, hx, rfl⟩ := List.mem_map.mp he
        exact (e7 x hx).2.2.1
      · show Bud l0 l1 (1 + vszM (zs.map fun e => (e.1.k, e.2)))
        rw [vszM_sum, List.length_map, List.map_map, ezl]
        have ez2 : (zs.map ((fun e : List Int × Vl => vsz e.2) ∘ fun e : Ent × Vl => (e.1.k, e.2))).sum = (es.map fun e => vsz e.2).sum := ezs
        rw [ez2]
        exact bud_map hl0 (by omega) eb
      · exact tpa_entF e7
theorem rec__law_value (F : FunD K "_law_value" "_law_value" (defArgs s__law_value) (defBody s__law_value) (defScope s__law_value) [] [] (glAd "_law_value" K) fd) (m : mg "_law_value" = some (.ref (glAd "_law_value" K))) (nb : Nm w K mg) (c__law_next : Cal P w K mg base 1 "_law_next" (sp__law_next K) []) (c__law_many : Cal P w K mg base 2 "_law_many" (sp__law_many K) []) (c__law_points : Cal P w K mg base 3 "_law_points" (sp__law_points K) []) (c__law_leaf : Cal P w K mg base 4 "_law_leaf" (sp__law_leaf K) []) : ∀ n, Cal P w K mg base (5 + n) "_law_value" (sp__law_value K n) []
  | 0 => calD (k := 4) F m sc__law_value (fun _ _ _ _ _ _ us hl => match us, hl with | [_, _, _, _], _ => rfl) (fun _ _ _ _ h => (no__law_value h).elim) (fun _ _ _ _ _ _ _ _ _ h => (no__law_value h).elim)
  | n + 1 => ok__law_value n F m nb c__law_next c__law_many c__law_points c__law_leaf (rec__law_value F m nb c__law_next c__law_many c__law_points c__law_leaf n)
theorem ok__law_towered (F : FunD K "_law_towered" "_law_towered" (defArgs s__law_towered) (defBody s__law_towered) (defScope s__law_towered) [] [] (glAd "_law_towered" K) fd) (m : mg "_law_towered" = some (.ref (glAd "_law_towered" K))) (nb : Nm w K mg) (c__law_next : Cal P w K mg base 1 "_law_next" (sp__law_next K) []) : Cal P w K mg base 2 "_law_towered" (sp__law_towered K) [] := by
  refine calD F m sc__law_towered (fun _ _ _ _ _ _ us hl => match us, hl with | [_, _, _], _ => rfl) len3 (fun cdv A outer s H vs Q E hr h => ⟨_, (pss_cut (ps_if (pt_cmpR op_eq (pe_c c__law_next hr (by decide) rfl (pa_cons (pv 0) (pa_cons pe_int pa_nil))) pe_int (nomark _))
    (pss_one (ps_for PassesOwn.never rfl (pi_range1 rfl nb.range (pa_cons (pe_c c__law_next hr (by decide) rfl (pa_cons (pv 0) (pa_cons pe_int pa_nil))) pa_nil)) (pg_name (i := 3) sc__law_towered.nd rfl (Or.inl rfl))
    (pss_cons (ps_set (i := 4) sc__law_towered.nd rfl (Or.inl rfl) (pe_c c__law_next hr (by decide) rfl (pa_cons (pv 0) (pa_cons pe_int pa_nil))))
    (pss_one (ps_if (PW.pt (pw_and (pt_cmpR op_eq (pv 4) pe_int (nomark _)) (pw_and1 (pt_val (pv 2)))))
    (pss_one (ps_set (i := 1) sc__law_towered.nd rfl (Or.inl rfl) (pe_tup (pa_cons pe_str (pa_cons (pe_tup (pa_cons (pe_tup (pa_cons (pe_tup (pa_cons pe_int pa_nil)) (pa_cons (pv 1) pa_nil))) pa_nil)) pa_nil)))))
    (pss_one (ps_if (pt_cmpR op_eq (pv 4) pe_int (nomark _))
    (pss_one (ps_set (i := 1) sc__law_towered.nd rfl (Or.inl rfl) (pe_tup (pa_cons pe_str (pa_cons (pe_tup (pa_cons (pv 1) (pa_cons (pe_tup (pa_cons pe_str (pa_cons (pe_tup pa_nil) pa_nil))) pa_nil))) pa_nil)))))
    (pss_one (ps_set (i := 1) sc__law_towered.nd rfl (Or.inl rfl) (pe_tup (pa_cons pe_str (pa_cons (pe_tup (pa_cons (pv 1) pa_nil)) pa_nil))))))))))))
    pss_nil)
    (pss_one (ps_ret (pv 1)))), ?_⟩)
  obtain ⟨_, v, _, rfl, S, l, t, mp, rfl, rfl, L, tp, ok, h⟩ := h
  walk_at "rd"
  refine r_cut (fun σ H' => LB K S l H' ∧ Keep S H H' ∧ ∃ (v : V) (t' : Vl) (n : Nat) (y2 y3 : Option V), n ≤ 24 ∧ t'.gf n ∧ vsz t' ≤ vsz t + 40 ∧ Tp H' v t'.dat ∧ σ = [some (.ref S.a), some v, some (.bl mp), y2, y3]) ?_ ?_
  · walk_at "rd"
    refine b_next L (by decide) fun r1 H1 a1 b1 L1 k1 => ?_
    have tp := Tp.tk (keep_tk L.ls k1) _ _ tp
    walk_at "rd"
    refine r_ite (fun c => ?_) (fun c => ?_)
    · walk_at "rd"
      refine b_next L1 (by decide) fun r2 H2 a2 b2 L2 k2 => ?_
      have tp := Tp.tk (keep_tk L1.ls k2) _ _ tp
      have k2 := k1.trans k2
      walk_at "rd"
      refine r_turns (by omega) (by omega) (fun i σ H' => LB K S l H' ∧ Keep S H H' ∧ ∃ (v : V) (t' : Vl) (y2 y3 : Option V), i ≤ 20 ∧ t'.gf (4 + i) ∧ vsz t' ≤ vsz t + 2 * i ∧ Tp H' v t'.dat ∧ σ = [some (.ref S.a), some v, some (.bl mp), y2, y3]) ⟨L2, k2, v, t, _, _, Nat.zero_le _, ok, Nat.le_refl _, tp, rfl⟩ ?_ ?_
      · rintro i σ H3 hi ⟨L3, k3, v, t', y2, y3, hi2, ok3, sz3, tp3, rfl⟩
        walk_at "rd"
        refine b_next L3 (by decide) fun r4 H4 a4 b4 L4 k4 => ?_
        have tp4 := Tp.tk (keep_tk L3.ls k4) _ _ tp3
        have k4 := k3.trans k4
        walk_at "ri"
        refine r_ifB (decide (r4 = 0 ∧ mp = true)) (fun R hR => ?_) ?_
        · walk_at "rd"
          refine r_ite (fun c => ?_) (fun c => ?_)
          · have e : decide (r4 = 0 ∧ mp = true) = mp := by
              cases mp
              · exact decide_eq_false fun z => by cases z.2
              · exact decide_eq_true ⟨c, rfl⟩
            rw [e] at hR
            walk_at "rd"
            exact hR
          · rw [decide_eq_false (fun z => c z.1)] at hR
            exact hR
        refine r_ite (fun c => ?_) (fun c => ?_)
        · walk_at "rd"
          refine ⟨by show 1 ≤ sizeLine; decide, fun p5 n5 => ?_⟩
          obtain ⟨H5, e, L5, s5, g5⟩ := new_b (o := .tup [.int 97]) L4 n5
          rw [e]
          clear e
          walk_at "rd"
          refine ⟨by show 2 ≤ sizeLine; decide, fun p6 n6 => ?_⟩
          obtain ⟨H6, e, L6, s6, g6⟩ := new_b (o := .tup [.ref p5, v]) L5 n6
          rw [e]
          clear e
          walk_at "rd"
          refine ⟨by show 1 ≤ sizeLine; decide, fun p7 n7 => ?_⟩
          obtain ⟨H7, e, L7, s7, g7⟩ := new_b (o := .tup [.ref p6]) L6 n7
          rw [e]
          clear e
          walk_at "rd"
          refine ⟨by show 2 ≤ sizeLine; decide, fun p8 n8 => ?_⟩
          obtain ⟨H8, e, L8, s8, g8⟩ := new_b (o := .tup [.str "map", .ref p7]) L7 n8
          rw [e]
          clear e
          walk_at "rd"
          have sa := (s5.trans s6).trans (s7.trans s8)
          have tpv : Tp H8 v t'.dat := Tp.tk (Same.tk sa) _ _ tp4
          refine ⟨L8, k4.trans (Keep.of sa), .ref p8, .mp [([97], t')], _, _, by omega, ⟨by show 1 ≤ 49; decide, fun e he => ?_, ok3, trivial⟩, by show 1 + (1 + vsz t' + 0) ≤ _; omega, .tup g8 (.cons (.str _) (.cons (.tup (s8 _ _ g7) (.cons (.tup ((s7.trans s8) _ _ g6) (.cons (tp_kd ((s6.trans (s7.trans s8)) _ _ g5)) (.cons tpv .nil))) .nil)) .nil)), rfl⟩
          rw [List.mem_singleton.mp he]
          exact ⟨by show 1 ≤ 200; decide, fun p hp => by
            rw [List.mem_singleton.mp hp]
            exact ⟨by decide, by decide, .inl (by decide)⟩⟩
        walk_at "rd"
        refine r_ite (fun c => ?_) (fun c => ?_)
        · walk_at "rd"
          refine ⟨Nat.zero_le _, fun p5 n5 => ?_⟩
          obtain ⟨H5, e, L5, s5, g5⟩ := new_b (o := .tup []) L4 n5
          rw [e]
          clear e
          walk_at "rd"
          refine ⟨by show 2 ≤ sizeLine; decide, fun p6 n6 => ?_⟩
          obtain ⟨H6, e, L6, s6, g6⟩ := new_b (o := .tup [.str "list", .ref p5]) L5 n6
          rw [e]
          clear e
          walk_at "rd"
          refine ⟨by show 2 ≤ sizeLine; decide, fun p7 n7 => ?_⟩
          obtain ⟨H7, e, L7, s7, g7⟩ := new_b (o := .tup [v, .ref p6]) L6 n7
          rw [e]
          clear e
          walk_at "rd"
          refine ⟨by show 2 ≤ sizeLine; decide, fun p8 n8 => ?_⟩
          obtain ⟨H8, e, L8, s8, g8⟩ := new_b (o := .tup [.str "list", .ref p7]) L7 n8
          rw [e]
          clear e
          walk_at "rd"
          have sa := (s5.trans s6).trans (s7.trans s8)
          have tpv : Tp H8 v t'.dat := Tp.tk (Same.tk sa) _ _ tp4
          have okE : (Vl.ls []).gf (4 + i) := by
            rw [Nat.add_comm]
            exact ⟨Nat.zero_le _, trivial⟩
          exact ⟨L8, k4.trans (Keep.of sa), .ref p8, .ls [t', .ls []], _, _, by omega, ⟨by show 2 ≤ 49; decide, ok3, okE, trivial⟩, by show 1 + (vsz t' + (1 + 0 + 0)) ≤ _; omega, .tup g8 (.cons (.str _) (.cons (.tup (s8 _ _ g7) (.cons tpv (.cons (.tup ((s7.trans s8) _ _ g6) (.cons (.str _) (.cons (.tup ((s6.trans (s7.trans s8)) _ _ g5) .nil) .nil))) .nil))) .nil)), rfl⟩
        · walk_at "rd"
          refine ⟨by show 1 ≤ sizeLine; decide, fun p7 n7 => ?_⟩
          obtain ⟨H7, e, L7, s7, g7⟩ := new_b (o := .tup [v]) L4 n7
          rw [e]
          clear e
          walk_at "rd"
          refine ⟨by show 2 ≤ sizeLine; decide, fun p8 n8 => ?_⟩
          obtain ⟨H8, e, L8, s8, g8⟩ := new_b (o := .tup [.str "list", .ref p7]) L7 n8
          rw [e]
          clear e
          walk_at "rd"
          have sa := s7.trans s8
          have tpv : Tp H8 v t'.dat := Tp.tk (Same.tk sa) _ _ tp4
          exact ⟨L8, k4.trans (Keep.of sa), .ref p8, .ls [t'], _, _, by omega, ⟨by show 1 ≤ 49; decide, ok3, trivial⟩, by show 1 + (vsz t' + 0) ≤ _; omega, .tup g8 (.cons (.str _) (.cons (.tup (s8 _ _ g7) (.cons tpv .nil)) .nil)), rfl⟩
      · rintro σ H3 ⟨L3, k3, v, t', y2, y3, hi2, ok3, sz3, tp3, rfl⟩
        walk_at "rd"
        exact ⟨L3, k3, v, t', _, _, _, by omega, ok3, by omega, tp3, rfl⟩
    · walk_at "rd"
      exact ⟨L1, k1, v, t, 4, _, _, by decide, ok, by omega, tp, rfl⟩
  · rintro σ H3 ⟨L3, k3, v, t', n, y2, y3, hn, ok3, sz3, tp3, rfl⟩
    walk_at "rd"
    exact h v t' n _ hn ok3 sz3 tp3 L3 k3
theorem ok__law_mixed (F : FunD K "_law_mixed" "_law_mixed" (defArgs s__law_mixed) (defBody s__law_mixed) (defScope s__law_mixed) [] [] (glAd "_law_mixed" K) fd) (m : mg "_law_mixed" = some (.ref (glAd "_law_mixed" K))) (nb : Nm w K mg) (c__law_next : Cal P w K mg base 1 "_law_next" (sp__law_next K) []) : Cal P w K mg base 2 "_law_mixed" (sp__law_mixed K) [] := by
  refine calD F m sc__law_mixed (fun _ _ _ _ _ _ us hl => match us, hl with | [_, _], _ => rfl) len2 (fun cdv A outer s H vs Q E hr h => ⟨_, (pss_cons (ps_set (i := 2) sc__law_mixed.nd rfl (Or.inl rfl) (pe_lstE pa_nil))
    (pss_cons (ps_for PassesOwn.never rfl (pi_tup (pv 1)) (pg_name (i := 3) sc__law_mixed.nd rfl (Or.inl rfl))
    (pss_one (ps_expr (pe_bm PySem.F.plainAttrs_list PySem.F.slot_list_insert PySem.F.type_list_insert mt_insert (pv 2) (pa_cons (pe_c c__law_next hr (by decide) rfl (pa_cons (pv 0) (pa_cons (pe_op op_add (pe_callB call_len_seq (by rfl) nb.len PySem.boot_len (pa_cons (pv 2) pa_nil)) pe_int) pa_nil))) (pa_cons (pv 3) pa_nil))))))
    (pss_one (ps_ret (pv 2))))), ?_⟩)
  obtain ⟨_, _, rfl, S, l, p, xs, rfl, rfl, hp, hl, L, h⟩ := h
  walk_at "rf"
  refine ⟨by show 0 ≤ sizeLine; decide, fun q H1 nq g1 s1 => ?_⟩
  have L1 := L.same s1
  have ne1 := L.ne_free nq
  walk_at "rf"
  refine ⟨p, rfl, ⟨xs, SqT.of (s1 _ _ hp)⟩, ?_⟩
  refine r_eachT (xs := xs) (fun i σ H' => LB K S l H' ∧ Keep S H H' ∧ ∃ (ys : List V) (y3 : Option V), ys.Perm (xs.take i) ∧ H' q = some (.lst ys) ∧ σ = [some (.ref S.a), some (.ref p), some (.ref q), y3]) ⟨L1, Keep.of s1, [], none, by simp, g1, rfl⟩ (fun i σ H' hh => by
    obtain ⟨_, k, _⟩ := hh
    exact SqT.of (keep_tk L.ls k _ _ hp)) ?_ ?_
  · rintro i x σ H2 hx ⟨L2, k2, ys, y3, pm, g2, rfl⟩
    have hi : i < xs.length := (List.getElem?_eq_some_iff.mp hx).1
    have yl : ys.length = i := by rw [pm.length_eq, List.length_take]; omega
    walk_at "rf"
    refine ⟨tyL g2, ?_⟩
    walk_at "rf"
    refine ⟨q, _, rfl, .inl (SqL.of g2), ?_⟩
    walk_at "rf"
    refine b_next L2 (by rw [yl]; omega) fun r H3 a3 b3 L3 k3 => ?_
    have g3 := k3 _ _ ne1 g2
    walk_at "rf"
    rw [yl] at b3
    refine ⟨q, ys, r, x, rfl, rfl, g3, small1000 (by omega), a3, by omega, ?_⟩
    have et : xs.take (i + 1) = xs.take i ++ [x] := by rw [List.take_succ, hx]; rfl
    refine ⟨L.away nq L3 _, keep_away (k2.trans k3) nq, ys.take r.toNat ++ [x] ++ ys.drop r.toNat, _, ?_, upd_same, rfl⟩
    rw [et, List.append_assoc]
    refine (List.perm_middle).trans ?_
    rw [show ys.take r.toNat ++ [].append (ys.drop r.toNat) = ys from List.take_append_drop _ _]
    exact (List.Perm.cons x pm).trans (List.perm_append_singleton x _).symm
  · rintro σ H2 ⟨L2, k2, ys, y3, pm, g2, rfl⟩
    rw [List.take_length] at pm
    walk_at "rf"
    exact h q ys H2 pm nq ne1 g2 L2 k2
end

/-! ### the events of a value, and how the loose writer goes over them -/
mutual
/-- the events of a value, entries in any order; what stands behind the event that opens a map may be anything -/
inductive EvR : Vl → List Ev → Prop
  | lf {k : Str} {r : List PyData} : EvR (.lf k r) [.lf k r]
  | ls {xs : List Vl} {es : List Ev} (h : EvRL xs es) : EvR (.ls xs) (.op false :: (es ++ [.cl]))
  | mp {xs : List (List Int × Vl)} {es : List Ev} : EvR (.mp xs) (.op true :: es)
inductive EvRL : List Vl → List Ev → Prop
  | nil : EvRL [] []
  | cons {x : Vl} {xs : List Vl} {e es : List Ev} (h : EvR x e) (t : EvRL xs es) : EvRL (x :: xs) (e ++ es)
end
theorem EvRL.snoc : ∀ {xs : List Vl} {es : List Ev} {x : Vl} {e : List Ev}, EvRL xs es → EvR x e → EvRL (xs ++ [x]) (es ++ e)
  | [], _, x, t, .nil, h => by
    have e : t = t ++ [] := (List.append_nil t).symm
    rw [List.nil_append, List.nil_append, e]
    exact .cons h .nil
  | y :: ys, _, x, t, .cons h1 r, h => by
    rw [List.cons_append, List.append_assoc]
    exact .cons h1 (EvRL.snoc r h)
def hallE : Ev → Bool
  | .op _ => false
  | _ => true
def hallO (h : Bool) : List Int := if h = true then [32] else []
/-- the law's own memory is the writer's -/
def okW : Sl → Bool → List Ev → Prop
  | _, _, [] => True
  | s, h, e :: es => lackE e = true ∨ (SlOk s e ∧ (e = .cl ∨ befO s.st = hallO h) ∧ okW (slS s e) (hallE e) es)
theorem okW_lf {k : Str} {r : List PyData} (g : Lg k r) {s : Sl} {h : Bool} {rest : List Ev} (hh : befO s.st = hallO h) (q : ∀ m, okW ⟨m, befS s.st⟩ true rest) : okW s h (.lf k r :: rest) := by
  cases g with
  | bytes os ho => exact .inr ⟨⟨rfl, os, rfl, ho⟩, .inr hh, q _⟩
  | odd k r h1 h2 h3 => exact .inl (by show (decide (k ≠ "bytes") && decide (k ≠ "list")) = true; rw [decide_eq_true h1, decide_eq_true h2]; rfl)
def OkV (n : Nat) : Prop := ∀ (t : Vl) (es : List Ev), t.gf n → EvR t es → ∀ (s : Sl) (h : Bool) (rest : List Ev), s.st.length + n ≤ 40 → befO s.st = hallO h → (∀ m, okW ⟨m, befS s.st⟩ true rest) → okW s h (es ++ rest)
theorem okW_ls {n : Nat} (H : OkV n) : ∀ (xs : List Vl) (es : List Ev), gfL n xs → EvRL xs es → ∀ (m : Nat) (b : Bool) (X : List Bool) (rest : List Ev), X.length + 1 + n ≤ 40 → (∀ m b, okW ⟨m, b :: X⟩ (!b) rest) → okW ⟨m, b :: X⟩ (!b) (es ++ rest)
  | [], _, _, .nil, m, b, X, rest, _, q => q m b
  | x :: xs, _, g, .cons h t, m, b, X, rest, hl, q => by
    rw [List.append_assoc]
    refine H x _ g.1 h ⟨m, b :: X⟩ (!b) _ (by show X.length + 1 + n ≤ 40; omega) (by cases b <;> rfl) fun m' => ?_
    have e : befS (b :: X) = false :: X := by cases b <;> rfl
    show okW ⟨m', befS (b :: X)⟩ true _
    rw [e]
    exact okW_ls H xs _ g.2 t m' false X rest hl q
theorem okW_val : ∀ n, OkV n := by
  intro n
  induction n with
  | zero =>
    intro t es g r s h rest hl hh q
    cases r with
    | lf => exact okW_lf (show Lg _ _ from g) hh q
    | ls h => exact (show False from g).elim
    | mp => exact .inl rfl
  | succ n ih =>
    intro t es g r s h rest hl hh q
    cases r with
    | lf => exact okW_lf (show Lg _ _ from g) hh q
    | mp => exact .inl rfl
    | @ls xs es r =>
      have g : xs.length ≤ 49 ∧ gfL n xs := g
      show okW s h (.op false :: (es ++ [.cl] ++ rest))
      refine .inr ⟨⟨rfl, by omega⟩, .inr hh, ?_⟩
      show okW ⟨s.m + 1, true :: befS s.st⟩ false _
      rw [List.append_assoc]
      have bl : (befS s.st).length = s.st.length := by
        cases s.st with
        | nil => rfl
        | cons b X => cases b <;> rfl
      refine okW_ls ih xs es g.2 r (s.m + 1) true (befS s.st) _ (by rw [bl]; omega) fun m b => .inr ⟨by simp [SlOk], .inl rfl, q m⟩
/-- nothing lacks: then it is one of S-expressions -/
theorem gf_sf : ∀ (n : Nat) (t : Vl) (es : List Ev), t.gf n → EvR t es → (∀ e ∈ es, lackE e = false) → t.sf n := by
  have lf : ∀ (n : Nat) (k : Str) (r : List PyData), Lg k r → lackE (.lf k r) = false → (Vl.lf k r).sf n := by
    intro n k r g h
    cases g with
    | bytes os ho => exact sf_leaf ho n
    | odd k r h1 h2 h3 =>
      have : (decide (k ≠ "bytes") && decide (k ≠ "list")) = false := h
      rw [decide_eq_true h1, decide_eq_true h2] at this
      cases this
  have ls : ∀ (n : Nat), (∀ (t : Vl) (es : List Ev), t.gf n → EvR t es → (∀ e ∈ es, lackE e = false) → t.sf n) → ∀ (xs : List Vl) (es : List Ev), gfL n xs → EvRL xs es → (∀ e ∈ es, lackE e = false) → sfL n xs := by
    intro n ih xs
    induction xs with
    | nil => intro es _ _ _; exact trivial
    | cons x xs IH =>
      intro es g h hl
      cases h with
      | cons h1 h2 => exact ⟨ih x _ g.1 h1 fun e he => hl e (List.mem_append_left _ he), IH _ g.2 h2 fun e he => hl e (List.mem_append_right _ he)⟩
  intro n
  induction n with
  | zero =>
    intro t es g r hl
    cases r with
    | lf => exact lf 0 _ _ g (hl _ (by simp))
    | ls h => exact (show False from g).elim
    | mp => exact absurd (hl _ (List.mem_cons_self ..)) (by show ¬ true = false; decide)
  | succ n ih =>
    intro t es g r hl
    cases r with
    | lf => exact lf _ _ _ g (hl _ (by simp))
    | mp => exact absurd (hl _ (List.mem_cons_self ..)) (by show ¬ true = false; decide)
    | @ls xs es r =>
      have g : xs.length ≤ 49 ∧ gfL n xs := g
      exact ⟨g.1, ls n ih xs es g.2 r fun e he => hl e (List.mem_cons_of_mem _ (List.mem_append_left _ he))⟩
/-- the octets, event by event -/
def outs : Sl → List Ev → List (List Int)
  | _, [] => []
  | s, e :: es => slO s e :: outs (slS s e) es
def slR (s : Sl) (es : List Ev) : Sl := es.foldl slS s
theorem outs_app : ∀ (a b : List Ev) (s : Sl), outs s (a ++ b) = outs s a ++ outs (slR s a) b
  | [], _, _ => rfl
  | e :: a, b, s => by
    show slO s e :: outs (slS s e) (a ++ b) = slO s e :: outs (slS s e) a ++ _
    rw [outs_app a b (slS s e)]
    rfl
theorem slR_app (a b : List Ev) (s : Sl) : slR s (a ++ b) = slR (slR s a) b := List.foldl_append
/-- how the writer stands behind a value -/
theorem slR_val : ∀ (n : Nat) (t : Vl) (es : List Ev), t.sf n → EvR t es → ∀ s : Sl, ∃ m, slR s es = ⟨m, befS s.st⟩ := by
  have ls : ∀ (n : Nat), (∀ (t : Vl) (es : List Ev), t.sf n → EvR t es → ∀ s : Sl, ∃ m, slR s es = ⟨m, befS s.st⟩) → ∀ (xs : List Vl) (es : List Ev), sfL n xs → EvRL xs es → ∀ (m : Nat) (b : Bool) (X : List Bool), ∃ m' b', slR ⟨m, b :: X⟩ es = ⟨m', b' :: X⟩ := by
    intro n ih xs
    induction xs with
    | nil =>
      intro es _ h m b X
      cases h
      exact ⟨m, b, rfl⟩
    | cons x xs IH =>
      intro es g h m b X
      cases h with
      | cons h1 h2 =>
        obtain ⟨m1, e1⟩ := ih x _ g.1 h1 ⟨m, b :: X⟩
        have e : befS (b :: X) = false :: X := by cases b <;> rfl
        obtain ⟨m2, b2, e2⟩ := IH _ g.2 h2 m1 false X
        refine ⟨m2, b2, ?_⟩
        rw [slR_app, e1]
        show slR ⟨m1, befS (b :: X)⟩ _ = _
        rw [e, e2]
  intro n
  induction n with
  | zero =>
    intro t es g r s
    cases r with
    | lf => exact ⟨s.m + 1, rfl⟩
    | ls h => exact (show False from g).elim
    | mp => exact (show False from g).elim
  | succ n ih =>
    intro t es g r s
    cases r with
    | lf => exact ⟨s.m + 1, rfl⟩
    | mp => exact (show False from g).elim
    | @ls xs es r =>
      have g : xs.length ≤ 49 ∧ sfL n xs := g
      obtain ⟨m, b, e⟩ := ls n ih xs es g.2 r (s.m + 1) true (befS s.st)
      refine ⟨m, ?_⟩
      show slR ⟨s.m + 1, true :: befS s.st⟩ (es ++ [.cl]) = _
      rw [slR_app, e]
      rfl
/-- one event's octets -/
theorem slO_len {s : Sl} {e : Ev} (h : SlOk s e) : (slO s e).length ≤ 605 := by
  have bl : (befO s.st).length ≤ 1 := by rcases befO_two s.st with e | e <;> rw [e] <;> decide
  cases e with
  | cl => show 1 ≤ _; decide
  | op m => show (befO s.st ++ [40]).length ≤ _; rw [List.length_append]; show _ + 1 ≤ _; omega
  | ky k => exact h.elim
  | lf k r =>
    obtain ⟨rfl, os, rfl, ho⟩ := h
    have := loose_len ho
    rw [slO_lf, List.length_append]
    omega

/-! ### tokens of a value -/
theorem tokW_of {os : List Int} (h : isTk os = true) (hl : os.length < sizeLine) : TokW os := by
  cases os with
  | nil => cases h
  | cons o r =>
    obtain ⟨h1, h2⟩ := Bool.and_eq_true_iff.mp (show (begT o && (o :: r).all goT) = true from h)
    exact ⟨o, r, rfl, h1, fun c hc => List.all_eq_true.mp h2 c (List.mem_cons_of_mem _ hc), hl⟩
def Bl (b : List Int) : Prop := (∀ o ∈ b, o ∈ wsp) ∧ b.length ≤ 2
mutual
inductive Tks : Vl → List Tk3 → Prop
  | lf {os row b1 b2 : List Int} {tok : Bool} (w : AtomW os row tok) (ne : row ≠ []) (rl : row.length ≤ 1850) (h1 : Bl b1) (h2 : Bl b2) : Tks (.lf "bytes" [kd os]) [(b1, none, false), (row, some (.lf "bytes" [kd os]), tok), (b2, none, false)]
  | ls {xs : List Vl} {ts : List Tk3} {b1 b2 b3 : List Int} (h : TksL xs ts) (h1 : Bl b1) (h2 : Bl b2) (h3 : Bl b3) : Tks (.ls xs) ([(b1, none, false), ([40], some (.op false), false)] ++ ts ++ [(b2, none, false), ([41], some .cl, false)] ++ [(b3, none, false)])
inductive TksL : List Vl → List Tk3 → Prop
  | nil : TksL [] []
  | cons {x : Vl} {xs : List Vl} {t ts : List Tk3} (h : Tks x t) (r : TksL xs ts) : TksL (x :: xs) (t ++ ts)
end
theorem TksL.snoc : ∀ {xs : List Vl} {ts : List Tk3} {x : Vl} {t : List Tk3}, TksL xs ts → Tks x t → TksL (xs ++ [x]) (ts ++ t)
  | [], _, x, t, .nil, h => by
    have e : t = t ++ [] := (List.append_nil t).symm
    rw [List.nil_append, List.nil_append, e]
    exact .cons h .nil
  | y :: ys, _, x, t, .cons h1 r, h => by
    rw [List.cons_append, List.append_assoc]
    exact .cons h1 (TksL.snoc r h)
/-- it runs through -/
theorem go_ls {lv : List Lv} (hl : lv.length ≤ 24) (hne : lv ≠ []) : ∀ {xs : List Vl} {ts : List Tk3}, TksL xs ts → (∀ x ∈ xs, ∀ ts, Tks x ts → Go ts false lv.isEmpty lv lv) → Go ts false false lv lv
  | [], _, .nil, _ => Go.nil
  | x :: xs, _, .cons h r, H => by
    have e : lv.isEmpty = false := by
      cases lv with
      | nil => exact absurd rfl hne
      | cons => rfl
    have g := H x (by simp) _ h
    rw [e] at g
    exact g.app (go_ls hl hne r fun y hy => H y (List.mem_cons_of_mem _ hy))
theorem go_val : ∀ (n : Nat) (v : Vl) (ts : List Tk3) (lv : List Lv), v.sf n → Tks v ts → lv.length + n ≤ 24 → Go ts false lv.isEmpty lv lv := by
  intro n
  induction n with
  | zero =>
    intro v ts lv hb ht hn
    cases ht with
    | lf w ne rl h1 h2 => exact ((go_blank h1.1 (by omega)).app (go_atom w (by omega))).app (go_blank h2.1 (by omega))
    | ls h h1 h2 h3 => exact (show False from hb).elim
  | succ n ih =>
    intro v ts lv hb ht hn
    cases ht with
    | lf w ne rl h1 h2 => exact ((go_blank h1.1 (by omega)).app (go_atom w (by omega))).app (go_blank h2.1 (by omega))
    | @ls xs ts b1 b2 b3 h h1 h2 h3 =>
      have hb : xs.length ≤ 49 ∧ sfL n xs := hb
      have a1 : Go [(b1, none, false), ([40], some (.op false), false)] false false lv (⟨false, []⟩ :: lv) := (go_blank (bs := b1) h1.1 (by omega)).app (go_open (by omega))
      have a2 : Go ts false false (⟨false, []⟩ :: lv) (⟨false, []⟩ :: lv) := go_ls (by show lv.length + 1 ≤ 24; omega) (by simp) h fun x hx ts ht => ih x ts _ (sfL_mem hb.2 x hx) ht (by show lv.length + 1 + n ≤ 24; omega)
      have a3 : Go [(b2, none, false), ([41], some .cl, false)] false lv.isEmpty (⟨false, []⟩ :: lv) lv := (go_blank (bs := b2) h2.1 (by show lv.length + 1 ≤ 24; omega)).app (go_close (by omega))
      exact ((a1.app a2).app a3).app (go_blank h3.1 (by omega))
/-! what tokens are like -/
def octS (ts : List Tk3) : Nat := (ts.map fun t => t.1.length + 1).sum
theorem octS_app (a b : List Tk3) : octS (a ++ b) = octS a + octS b := by
  unfold octS
  rw [List.map_append, List.sum_append_nat]
theorem sched_len : ∀ (ts : List Tk3) (late : List Ev), (sched late ts).1.length ≤ octS ts
  | [], late => Nat.zero_le _
  | t :: ts, late => by
    have h1 := fix_len late t.1
    have h2 := sched_len ts (lateN late t)
    show (rowFix late t.1 ++ (sched (lateN late t) ts).1).length ≤ octS ([t] ++ ts)
    rw [List.length_append, octS_app]
    show _ ≤ (t.1.length + 1 + 0) + _
    omega
def Ok3 (t : Tk3) : Prop := (t.1 = [] → t.2.1 = none) ∧ (t.2.1 = none ∨ (∃ os, t.2.1 = some (.lf "bytes" [kd os]) ∧ os.length ≤ 300) ∨ t.2.1 = some (.op false) ∨ t.2.1 = some .cl) ∧ (t.2.2 = true → ∃ os, t.2.1 = some (.lf "bytes" [kd os]) ∧ os.length ≤ 300)
def Fine (v : Vl) (ts : List Tk3) : Prop := ts.length ≤ 5 * vsz v ∧ octS ts ≤ 2000 * vsz v ∧ ∀ t ∈ ts, Ok3 t
theorem ok3_blank (b : List Int) : Ok3 (b, none, false) := ⟨fun _ => rfl, .inl rfl, fun z => Bool.noConfusion z⟩
theorem octS_blank {b : List Int} (h : Bl b) : octS [(b, none, false)] ≤ 3 := by
  show b.length + 1 + 0 ≤ 3
  have := h.2
  omega
theorem kd_inj {a b : List Int} (h : kd a = kd b) : a = b := by
  unfold kd at h
  injection h with h
  have e := congrArg (List.map fun d : PyData => match d with | .int i => i | _ => 0) h
  rw [List.map_map, List.map_map] at e
  have f : ∀ l : List Int, List.map ((fun d : PyData => match d with | .int i => i | _ => 0) ∘ PyData.int) l = l := fun l => by
    rw [show ((fun d : PyData => match d with | .int i => i | _ => 0) ∘ PyData.int) = id from rfl, List.map_id]
  rw [f, f] at e
  exact e
theorem fine_lf {os row b1 b2 : List Int} {tok : Bool} (ne : row ≠ []) (rl : row.length ≤ 1850) (h1 : Bl b1) (h2 : Bl b2) (ho : os.length ≤ 300) : Fine (.lf "bytes" [kd os]) [(b1, none, false), (row, some (.lf "bytes" [kd os]), tok), (b2, none, false)] := by
  refine ⟨by show 3 ≤ 5; decide, ?_, fun t ht => ?_⟩
  · have := h1.2
    have := h2.2
    show (b1.length + 1) + ((row.length + 1) + ((b2.length + 1) + 0)) ≤ 2000 * 1
    omega
  · simp only [List.mem_cons, List.not_mem_nil, or_false] at ht
    rcases ht with e | e | e
    · rw [e]; exact ok3_blank _
    · rw [e]; exact ⟨fun z => absurd z ne, .inr (.inl ⟨os, rfl, ho⟩), fun _ => ⟨os, rfl, ho⟩⟩
    · rw [e]; exact ok3_blank _
theorem fine_ls {n : Nat} (H : ∀ (v : Vl) (ts : List Tk3), v.sf n → Tks v ts → Fine v ts) : ∀ (xs : List Vl) (ts : List Tk3), sfL n xs → TksL xs ts → ts.length ≤ 5 * vszL xs ∧ octS ts ≤ 2000 * vszL xs ∧ ∀ t ∈ ts, Ok3 t
  | [], _, _, .nil => ⟨Nat.le_refl _, Nat.le_refl _, fun x hx => absurd hx (by simp)⟩
  | x :: xs, _, hb, .cons (t := t) (ts := ts) h1 h2 => by
    obtain ⟨a1, a2, a3⟩ := H x t hb.1 h1
    obtain ⟨b1, b2, b3⟩ := fine_ls H xs ts hb.2 h2
    refine ⟨?_, ?_, fun y hy => (List.mem_append.mp hy).elim (a3 y) (b3 y)⟩
    · rw [List.length_append]
      show _ ≤ 5 * (vsz x + vszL xs)
      omega
    · rw [octS_app]
      show _ ≤ 2000 * (vsz x + vszL xs)
      omega
theorem fine_all : ∀ (n : Nat) (v : Vl) (ts : List Tk3), v.sf n → Tks v ts → Fine v ts := by
  intro n
  induction n with
  | zero =>
    intro v ts hb ht
    cases ht with
    | @lf os row b1 b2 tok w ne rl h1 h2 =>
      obtain ⟨os', _, e, ho⟩ := (show ∃ os', ("bytes" : Str) = "bytes" ∧ [kd os] = [kd os'] ∧ Oc os' from hb)
      injection e with e
      have eo := kd_inj e
      rw [← eo] at ho
      exact fine_lf ne rl h1 h2 ho.1
    | ls h h1 h2 h3 => exact (show False from hb).elim
  | succ n ih =>
    intro v ts hb ht
    cases ht with
    | @lf os row b1 b2 tok w ne rl h1 h2 =>
      obtain ⟨os', _, e, ho⟩ := (show ∃ os', ("bytes" : Str) = "bytes" ∧ [kd os] = [kd os'] ∧ Oc os' from hb)
      injection e with e
      have eo := kd_inj e
      rw [← eo] at ho
      exact fine_lf ne rl h1 h2 ho.1
    | @ls xs ts b1 b2 b3 h h1 h2 h3 =>
      have hb : xs.length ≤ 49 ∧ sfL n xs := hb
      obtain ⟨a1, a2, a3⟩ := fine_ls ih _ _ hb.2 h
      have x1 := h1.2
      have x2 := h2.2
      have x3 := h3.2
      refine ⟨?_, ?_, fun t ht => ?_⟩
      · simp only [List.length_append]
        show 2 + ts.length + 2 + 1 ≤ 5 * (1 + vszL xs)
        omega
      · rw [octS_app, octS_app, octS_app]
        show (b1.length + 1) + ((1 + 1) + 0) + octS ts + ((b2.length + 1) + ((1 + 1) + 0)) + ((b3.length + 1) + 0) ≤ 2000 * (1 + vszL xs)
        omega
      · simp only [List.mem_append, List.mem_cons, List.not_mem_nil, or_false] at ht
        rcases ht with ((((e | e) | e) | (e | e)) | e)
        · rw [e]; exact ok3_blank _
        · rw [e]; exact ⟨(fun z => by cases z), .inr (.inr (.inl rfl)), fun z => Bool.noConfusion z⟩
        · exact a3 t e
        · rw [e]; exact ok3_blank _
        · rw [e]; exact ⟨(fun z => by cases z), .inr (.inr (.inr rfl)), fun z => Bool.noConfusion z⟩
        · rw [e]; exact ok3_blank _

/-! ### the loose text is a row of tokens -/
theorem hxw_all : ∀ k ∈ List.range 16, hexW ((hxd (k : Int) : Nat) : Int) = some (k : Int) := by decide +kernel
theorem hxw {d : Int} (h0 : 0 ≤ d) (h1 : d < 16) : hexW ((hxd d : Nat) : Int) = some d := by
  have := hxw_all d.toNat (List.mem_range.mpr (by omega))
  rwa [show ((d.toNat : Nat) : Int) = d by omega] at this
theorem rn_hx2 : ∀ (os pre : List Int), (∀ c ∈ os, 0 ≤ c ∧ c ≤ 255) → pre.length + os.length < sizeLine → Rn (hx pre) (os.flatMap hx2) (hx (pre ++ os))
  | [], pre, _, hl => by
    rw [List.append_nil]
    exact Rn.nil ⟨rfl, by show pre.length < sizeLine; simpa using hl, rfl⟩
  | o :: os, pre, h, hl => by
    rw [List.flatMap_cons, show pre ++ o :: os = (pre ++ [o]) ++ os by simp]
    have ho := h o (by simp)
    rw [List.length_cons] at hl
    exact (rn_hex (hxw (by omega) (by omega)) (hxw (by omega) (by omega)) (by omega)).app (rn_hx2 os (pre ++ [o]) (fun c hc => h c (List.mem_cons_of_mem _ hc)) (by rw [List.length_append]; show _ + 1 + _ < _; omega))
theorem spr_refl (row : List Int) : Spr row row := fun _ _ _ h => h
theorem rn_qesc : ∀ (os pre : List Int), (∀ c ∈ os, 32 ≤ c ∧ c ≤ 126) → pre.length + os.length < sizeLine → Rn (qu pre) (os.flatMap qEsc) (qu (pre ++ os))
  | [], pre, _, hl => by
    rw [List.append_nil]
    exact Rn.nil (fit_qu (by simpa using hl))
  | o :: os, pre, h, hl => by
    rw [List.flatMap_cons, show pre ++ o :: os = (pre ++ [o]) ++ os by simp]
    have ho := h o (by simp)
    rw [List.length_cons] at hl
    refine Rn.app ?_ (rn_qesc os (pre ++ [o]) (fun c hc => h c (List.mem_cons_of_mem _ hc)) (by rw [List.length_append]; show _ + 1 + _ < _; omega))
    unfold qEsc
    by_cases c : o = 34 ∨ o = 92
    · rw [if_pos c]
      rcases c with e | e <;> subst e
      · exact rn_short (by decide) (by decide) (.inr (by decide)) (by decide) (by omega)
      · exact rn_short (by decide) (by decide) (.inr (by decide)) (by decide) (by omega)
    · rw [if_neg c]
      exact rn_plain ho.1 ho.2 (fun e => c (.inl e)) (fun e => c (.inr e)) (by omega)
theorem atomW_loose {os : List Int} (h : Oc os) : AtomW os (looseO os) (isTk os) := by
  have hs : os.length < sizeLine := Nat.lt_of_le_of_lt h.1 (by decide)
  unfold AtomW looseO
  cases c : isTk os with
  | true =>
    rw [if_pos rfl, if_pos rfl]
    exact ⟨rfl, tokW_of c hs⟩
  | false =>
    rw [if_neg (by decide), if_neg (by decide)]
    by_cases p : plainO os = true
    · rw [if_pos p]
      have hp : ∀ c ∈ os, 32 ≤ c ∧ c ≤ 126 := fun c hc => by
        have := List.all_eq_true.mp p c hc
        simpa using this
      have r := rn_qesc os [] hp (by simpa using hs)
      exact row_quo (by simpa using r)
    · rw [if_neg p]
      have r := rn_hx2 os [] h.2 (by simpa using hs)
      exact row_hex (by simpa using r) (spr_refl _)
theorem loose_ne {os : List Int} : looseO os ≠ [] := by
  unfold looseO
  split
  · rename_i c
    intro z
    rw [z] at c
    cases c
  · split <;> exact fun z => by cases z
theorem fix_no : ∀ row : List Int, rowFix [] row = row
  | [] => rfl
  | o :: r => by
    show (if ([] : List Ev) ≠ [] ∧ goT o = true then 32 :: o :: r else o :: r) = _
    rw [if_neg (fun z => z.1 rfl)]
theorem fix_off {late : List Ev} {o : Int} {r : List Int} (h : goT o = false) : rowFix late (o :: r) = o :: r := by
  show (if late ≠ [] ∧ goT o = true then 32 :: o :: r else o :: r) = _
  rw [if_neg (fun z => by rw [h] at z; cases z.2)]
/-- the blank ahead of an item -/
theorem fix_bef {X : List Bool} {late : List Ev} (h : late = [] ∨ befO X = [32]) : rowFix late (befO X) = befO X ∧ lateN late (befO X, none, false) = [] := by
  rcases befO_two X with e | e
  · rcases h with h | h
    · subst h
      rw [e]
      exact ⟨rfl, rfl⟩
    · rw [e] at h
      cases h
  · rw [e]
    exact ⟨fix_off (by decide), rfl⟩
theorem bl_bef (X : List Bool) : Bl (befO X) := by
  rcases befO_two X with e | e <;> rw [e]
  · exact ⟨(fun o h => by cases h), by decide⟩
  · exact ⟨(fun o h => by rw [List.mem_singleton.mp h]; decide), by decide⟩
theorem bl_no : Bl [] := ⟨(fun o h => by cases h), by decide⟩
def TxtV (n : Nat) : Prop := ∀ (t : Vl) (es : List Ev), t.sf n → EvR t es → ∀ s : Sl, ∃ ts, Tks t ts ∧ ∀ late, (late = [] ∨ befO s.st = [32]) → (sched late ts).1 = (outs s es).flatten
theorem txt_lf {n : Nat} {k : Str} {r : List PyData} (g : (Vl.lf k r).sf n) (s : Sl) : ∃ ts, Tks (.lf k r) ts ∧ ∀ late, (late = [] ∨ befO s.st = [32]) → (sched late ts).1 = (outs s [.lf k r]).flatten := by
  obtain ⟨os, rfl, rfl, ho⟩ : ∃ os, k = "bytes" ∧ r = [kd os] ∧ Oc os := by cases n <;> exact g
  refine ⟨_, .lf (b1 := befO s.st) (b2 := []) (atomW_loose ho) loose_ne (by have := loose_len ho; omega) (bl_bef _) bl_no, fun late hl => ?_⟩
  obtain ⟨e1, e2⟩ := fix_bef hl
  show rowFix late (befO s.st) ++ (rowFix (lateN late (befO s.st, none, false)) (looseO os) ++ ([] ++ [])) = slO s (.lf "bytes" [kd os]) ++ []
  rw [e1, e2, fix_no, slO_lf]
  simp
theorem txt_ls {n : Nat} (H : TxtV n) : ∀ (xs : List Vl) (es : List Ev), sfL n xs → EvRL xs es → ∀ (m : Nat) (b : Bool) (X : List Bool), ∃ ts, TksL xs ts ∧ ∀ late, (late = [] ∨ b = false) → (sched late ts).1 = (outs ⟨m, b :: X⟩ es).flatten
  | [], _, _, .nil, m, b, X => ⟨[], .nil, fun _ _ => rfl⟩
  | x :: xs, _, g, .cons (e := e) (es := es) h t, m, b, X => by
    obtain ⟨ts, tk, q⟩ := H x _ g.1 h ⟨m, b :: X⟩
    obtain ⟨m2, em⟩ := slR_val n x _ g.1 h ⟨m, b :: X⟩
    have eb : befS (b :: X) = false :: X := by cases b <;> rfl
    obtain ⟨us, uk, q2⟩ := txt_ls H xs _ g.2 t m2 false X
    refine ⟨ts ++ us, .cons tk uk, fun late hl => ?_⟩
    rw [sched_app, outs_app, em]
    show (sched late ts).1 ++ (sched (sched late ts).2.2 us).1 = (outs ⟨m, b :: X⟩ e ++ outs ⟨m2, befS (b :: X)⟩ es).flatten
    rw [List.flatten_append, eb, q late (hl.imp id fun z => by rw [z]; rfl), q2 _ (.inr rfl)]
theorem txt_val : ∀ n, TxtV n := by
  intro n
  induction n with
  | zero =>
    intro t es g r s
    cases r with
    | lf => exact txt_lf g s
    | ls h => exact (show False from g).elim
    | mp => exact (show False from g).elim
  | succ n ih =>
    intro t es g r s
    cases r with
    | lf => exact txt_lf g s
    | mp => exact (show False from g).elim
    | @ls xs es r =>
      have g : xs.length ≤ 49 ∧ sfL n xs := g
      obtain ⟨ts, tk, q⟩ := txt_ls ih xs es g.2 r (s.m + 1) true (befS s.st)
      refine ⟨_, .ls (b1 := befO s.st) (b2 := []) (b3 := []) tk (bl_bef _) bl_no bl_no, fun late hl => ?_⟩
      obtain ⟨e1, e2⟩ := fix_bef hl
      have a1 : (sched late [(befO s.st, none, false), ([40], some (.op false), false)]).1 = befO s.st ++ [40] := by
        show rowFix late (befO s.st) ++ (rowFix (lateN late (befO s.st, none, false)) [40] ++ []) = _
        rw [e1, e2, fix_no]
        simp
      have a2 : (sched late [(befO s.st, none, false), ([40], some (.op false), false)]).2.2 = [] := rfl
      have a3 : ∀ l : List Ev, (sched l [([], none, false), ([41], some .cl, false)]).1 = [41] := fun l => by
        show rowFix l [] ++ (rowFix (lateN l ([], none, false)) [41] ++ []) = _
        rw [fix_off (by decide)]
        rfl
      have a4 : ∀ l : List Ev, (sched l [([], none, false)]).1 = [] := fun l => rfl
      rw [sched_app, sched_app, sched_app, a1, a2, a3, a4, q [] (.inl rfl)]
      show _ = (slO s (.op false) :: outs ⟨s.m + 1, true :: befS s.st⟩ (es ++ [.cl])).flatten
      rw [outs_app]
      show _ = (slO s (.op false) :: (outs ⟨s.m + 1, true :: befS s.st⟩ es ++ [[41]])).flatten
      rw [List.flatten_cons, List.flatten_append]
      show _ = (befO s.st ++ [40]) ++ ((outs ⟨s.m + 1, true :: befS s.st⟩ es).flatten ++ [41])
      simp

/-! ### the law's own writing -/




/-- a new list with these numbers, all else kept -/
def Out (H : Hp) (xs : List Int) (Q : VK) : Prop := ∀ (p : Addr) (H' : Hp), H p = none → H' p = some (.lst (xs.map V.int)) → Same H H' → Q (.ref p) H'
def sp__law_ascii (K : Frg) : Sp := sp1 fun a H Q _ => ∃ x : List Nat, a = .str (S x) ∧ x.length ≤ 10000 ∧ Out H (asc x) Q
theorem out_new {H : Hp} {xs : List Int} {Q : VK} (h : Out H xs Q) {p : Addr} (hp : H p = none) : Q (.ref p) (upd H p (.lst (xs.map V.int))) := h p _ hp upd_same (same_upd hp _)
theorem Out.same {H H1 : Hp} {xs : List Int} {Q : VK} (h : Out H xs Q) (s : Same H H1) : Out H1 xs Q := fun p H' n g s' => h p H' (s.free n) g (s.trans s')
theorem same_but {H H1 H2 : Hp} {q : Addr} (s : Same H H1) (nq : H q = none) (k : ∀ b, b ≠ q → H2 b = H1 b) : Same H H2 := fun b u z => by
  rw [k b (fun e => by rw [e, nq] at z; cases z)]
  exact s b u z
theorem S_at (x : List Nat) (i : Nat) : (S x).cps[i]? = x[i]? := by simp [S]
theorem S_size (x : List Nat) : (S x).cps.size = x.length := by simp [S]
theorem asc_len (x : List Nat) : (asc x).length = x.length := List.length_map ..
theorem small_asc {x : List Nat} (hx : x.length ≤ 10000) (i : Nat) : ((asc (x.take i)).map V.int).length < sizeLine := by
  rw [List.length_map, asc_len]
  exact Nat.lt_of_le_of_lt (Nat.le_trans (List.length_take_le' _ _) hx) (by decide)
theorem new_o {H : Hp} {p : Addr} {o : HO} (hp : H p = none) : ∃ H', upd H p o = H' ∧ Same H H' ∧ H' p = some o := ⟨_, rfl, same_upd hp o, upd_same⟩
def sp__law_letter (K : Frg) : Sp := sp1 fun a H Q _ => ∃ o : Int, a = .int o ∧ ∀ H', Same H H' → Q (.bl (begT o)) H'
def sp__law_in_token (K : Frg) : Sp := sp1 fun a H Q _ => ∃ o : Int, a = .int o ∧ ∀ H', Same H H' → Q (.bl (goT o)) H'
def sp__law_is_token (K : Frg) : Sp := sp1 fun a H Q _ => ∃ (p : Addr) (os : List Int), a = .ref p ∧ H p = some (.tup (os.map V.int)) ∧ os.length ≤ 300 ∧ ∀ H', Same H H' → Q (.bl (isTk os)) H'
theorem Tp.dpAllI {K : Frg} {H : Hp} : ∀ ns : List Int, DpAll K H (ns.map V.int) (ns.map PyData.int)
  | [] => .nil
  | n :: ns => .cons (.int n) (Tp.dpAllI ns)
section
variable {P : Program} {w : World} {K : PySem.W.Frag} {mg : Str → Option Value} {base : Heap} {f : Addr} {fd : FuncData}
theorem ok__law_ascii (F : FunD K "_law_ascii" "_law_ascii" (defArgs s__law_ascii) (defBody s__law_ascii) (defScope s__law_ascii) [] [] (glAd "_law_ascii" K) fd) (m : mg "_law_ascii" = some (.ref (glAd "_law_ascii" K))) (nb : Nm w K mg) : Cal P w K mg base 1 "_law_ascii" (sp__law_ascii K) [] := by
  refine calD F m sc__law_ascii (fun _ _ _ _ _ _ us hl => match us, hl with | [_], _ => rfl) len1 (fun cdv A outer s H vs Q E hr h => ⟨_, (pss_one (ps_ret (pe_lc (own := [("char", 1)]) (g := gName 1) (tt := tYes) rfl sc__law_ascii.nd (pi_str (pv 0)) (blkOk_by (N := ["text", "char"]) (sc := defScope s__law_ascii) (by decide +kernel)) (fun _ _ _ _ _ => pg_name (i := 1) sc__law_ascii.nd rfl (Or.inl rfl)) (fun _ _ _ _ _ => pts_nil) (fun _ _ _ _ _ => (pe_callB call_ord (by rfl) nb.ord (by decide +kernel) (pa_cons (pv 1) pa_nil)))))), ?_⟩)
  obtain ⟨_, rfl, x, rfl, hx, h⟩ := h
  walk_at "rd"
  refine r_lcS (x := S x) rfl (fun D i H' => H' D = some (.lst ((asc (x.take i)).map V.int)) ∧ ∀ b u, b ≠ D → H b = some u → H' b = some u) (fun D hD => ⟨upd_same, fun b u n z => (upd_ne n).trans z⟩) ?_ ?_
  · rintro D i c H' hD hc ⟨g1, g2⟩
    walk_at "rd"
    refine ⟨rfl, ?_⟩
    walk_at "rd"
    have hx2 : x[i]? = some c := by
      have := hc
      rw [S_at] at this
      exact this
    refine ⟨_, rfl, rfl, _, g1, small_asc hx i, ?_, fun b u n z => (upd_ne n).trans (g2 b u n z)⟩
    rw [upd_same, List.take_succ, hx2]
    unfold asc
    rw [List.map_append, List.map_append]
    rfl
  · rintro D H' hD ⟨g1, g2⟩
    have e : x.take (S x).cps.size = x := List.take_of_length_le (Nat.le_of_eq (S_size x).symm)
    rw [e] at g1
    exact h D H' hD g1 fun b u z => g2 b u (fun e => by rw [e, hD] at z; cases z) z
theorem ok__law_letter (F : FunD K "_law_letter" "_law_letter" (defArgs s__law_letter) (defBody s__law_letter) (defScope s__law_letter) [] [] (glAd "_law_letter" K) fd) (m : mg "_law_letter" = some (.ref (glAd "_law_letter" K))) (nb : Nm w K mg) (c__law_ascii : Cal P w K mg base 1 "_law_ascii" (sp__law_ascii K) []) : Cal P w K mg base 2 "_law_letter" (sp__law_letter K) [] := by
  refine calD F m sc__law_letter (fun _ _ _ _ _ _ us hl => match us, hl with | [_], _ => rfl) len1 (fun cdv A outer s H vs Q E hr h => ⟨_, (pss_one (ps_ret (pe_or (pe_and (pe_cmpR op_gt (pv 0) pe_int (nomark _)) (pe_one (pe_cmpR op_lt (pv 0) pe_int (nomark _)))) (pe_or (pe_and (pe_cmpR op_gt (pv 0) pe_int (nomark _)) (pe_one (pe_cmpR op_lt (pv 0) pe_int (nomark _)))) (pe_one (pe_cmpR op_in_seq (pv 0) (pe_c c__law_ascii hr (by decide) rfl (pa_cons pe_str pa_nil)) rfl)))))), ?_⟩)
  obtain ⟨_, rfl, o, rfl, h⟩ := h
  have hx : begT o = ((decide (64 < o) && decide (o < 91)) || ((decide (96 < o) && decide (o < 123)) || decide (o ∈ tmarks))) := by
    unfold begT
    rw [Bool.or_assoc]
    have e1 : decide (65 ≤ o) = decide (64 < o) := decide_eq_decide.mpr (by omega)
    have e2 : decide (o ≤ 90) = decide (o < 91) := decide_eq_decide.mpr (by omega)
    have e3 : decide (97 ≤ o) = decide (96 < o) := decide_eq_decide.mpr (by omega)
    have e4 : decide (o ≤ 122) = decide (o < 123) := decide_eq_decide.mpr (by omega)
    rw [e1, e2, e3, e4]
  rw [hx] at h
  clear hx
  have last : (∀ H', Same H H' → Q (.bl (decide (o ∈ tmarks))) H') → sp__law_ascii K ([.str "-./_:*+="] ++ []) H (fun y H2 => rIn K false (.int o) y H2 Q) C8.E0 := fun q =>
    ⟨_, rfl, [45, 46, 47, 95, 58, 42, 43, 61], congrArg V.str (show ("-./_:*+=" : Str) = S [45, 46, 47, 95, 58, 42, 43, 61] by decide +kernel), by decide, fun p H' np g s => ⟨p, tmarks.map V.int, rfl, .inl (SqL.of g), rfl, rfl, by
      rw [if_neg Bool.false_ne_true, in_tmarks]
      exact q H' s⟩⟩
  have h0 := h H (fun _ _ z => z)
  walk_at "rf"
  refine r_ite (fun c => ?_) (fun c => ?_)
  · rw [decide_eq_true c, Bool.true_and] at h h0
    walk_at "rf"
    refine r_ite (fun c2 => ?_) (fun c2 => ?_)
    · rw [decide_eq_true c2, Bool.true_or] at h0
      exact h0
    rw [decide_eq_false c2, Bool.false_or] at h h0
    walk_at "rf"
    refine r_ite (fun c3 => ?_) (fun c3 => ?_)
    · rw [decide_eq_true c3, Bool.true_and] at h h0
      walk_at "rf"
      refine r_ite (fun c4 => ?_) (fun c4 => ?_)
      · rw [decide_eq_true c4, Bool.true_or] at h0
        exact h0
      · rw [decide_eq_false c4] at h
        walk_at "rf"
        exact last fun H' s => by simpa using h H' s
    · rw [decide_eq_false c3] at h
      walk_at "rf"
      exact last fun H' s => by simpa using h H' s
  · rw [decide_eq_false c, Bool.false_and, Bool.false_or] at h h0
    walk_at "rf"
    refine r_ite (fun c3 => ?_) (fun c3 => ?_)
    · rw [decide_eq_true c3, Bool.true_and] at h h0
      walk_at "rf"
      refine r_ite (fun c4 => ?_) (fun c4 => ?_)
      · rw [decide_eq_true c4, Bool.true_or] at h0
        exact h0
      · rw [decide_eq_false c4] at h
        walk_at "rf"
        exact last fun H' s => by simpa using h H' s
    · rw [decide_eq_false c3] at h
      walk_at "rf"
      exact last fun H' s => by simpa using h H' s
theorem ok__law_in_token (F : FunD K "_law_in_token" "_law_in_token" (defArgs s__law_in_token) (defBody s__law_in_token) (defScope s__law_in_token) [] [] (glAd "_law_in_token" K) fd) (m : mg "_law_in_token" = some (.ref (glAd "_law_in_token" K))) (nb : Nm w K mg) (c__law_letter : Cal P w K mg base 2 "_law_letter" (sp__law_letter K) []) : Cal P w K mg base 3 "_law_in_token" (sp__law_in_token K) [] := by
  refine calD F m sc__law_in_token (fun _ _ _ _ _ _ us hl => match us, hl with | [_], _ => rfl) len1 (fun cdv A outer s H vs Q E hr h => ⟨_, (pss_one (ps_ret (pe_or (pe_c c__law_letter hr (by decide) rfl (pa_cons (pv 0) pa_nil)) (pe_one (pe_and (pe_cmpR op_gt (pv 0) pe_int (nomark _)) (pe_one (pe_cmpR op_lt (pv 0) pe_int (nomark _)))))))), ?_⟩)
  obtain ⟨_, rfl, o, rfl, h⟩ := h
  walk_at "rf"
  refine ⟨_, rfl, o, rfl, fun H1 s1 => ⟨_, rfl, ?_⟩⟩
  unfold goT at h
  cases c : begT o with
  | true =>
    rw [c, Bool.true_or] at h
    walk_at "rf"
    exact h H1 s1
  | false =>
    rw [c, Bool.false_or] at h
    unfold isDg at h
    have h := h H1 s1
    walk_at "rf"
    refine r_ite (fun c => ?_) (fun c => ?_)
    · rw [decide_eq_true (show 48 ≤ o by omega), Bool.true_and, show decide (o ≤ 57) = decide (o < 58) from decide_eq_decide.mpr (by omega)] at h
      walk_at "rf"
      exact h
    · rw [decide_eq_false (show ¬ 48 ≤ o by omega), Bool.false_and] at h
      exact h
theorem ok__law_is_token (F : FunD K "_law_is_token" "_law_is_token" (defArgs s__law_is_token) (defBody s__law_is_token) (defScope s__law_is_token) [] [] (glAd "_law_is_token" K) fd) (m : mg "_law_is_token" = some (.ref (glAd "_law_is_token" K))) (nb : Nm w K mg) (c__law_letter : Cal P w K mg base 2 "_law_letter" (sp__law_letter K) []) (c__law_in_token : Cal P w K mg base 3 "_law_in_token" (sp__law_in_token K) []) : Cal P w K mg base 4 "_law_is_token" (sp__law_is_token K) [] := by
  refine calD F m sc__law_is_token (fun _ _ _ _ _ _ us hl => match us, hl with | [_], _ => rfl) len1 (fun cdv A outer s H vs Q E hr h => ⟨_, (pss_cons (ps_if (PW.pt (pw_or (pt_cmpR op_eq (pe_callB call_len_seq (by rfl) nb.len PySem.boot_len (pa_cons (pv 0) pa_nil)) pe_int (nomark _)) (pw_or1 (pt_not (pt_val (pe_c c__law_letter hr (by decide) rfl (pa_cons (pe_ix ix_tup (pv 0) pe_int (fun _ _ => rfl)) pa_nil)))))))
    (pss_one (ps_ret pe_bl))
    pss_nil)
    (pss_one (ps_ret (pe_cmpR (op_eqD hr.units) (pe_lc (own := [("octet", 1)]) (g := gName 1) rfl sc__law_is_token.nd (pi_tup (pv 0)) (blkOk_by (N := ["octets", "octet"]) (sc := defScope s__law_is_token) (by decide +kernel)) (fun _ _ _ _ _ => pg_name (i := 1) sc__law_is_token.nd rfl (Or.inl rfl)) (fun _ _ _ _ _ => (pts_one (pt_not (pt_val (pe_c c__law_in_token hr (by decide) rfl (pa_cons (pv 1) pa_nil)))))) (fun _ _ _ _ _ => (pv 1))) (pe_lstE pa_nil) (nomark _))))), ?_⟩)
  obtain ⟨_, rfl, p, os, rfl, hp, hl, h⟩ := h
  walk_at "rf"
  refine ⟨p, _, rfl, .inr (SqT.of hp), ?_⟩
  rw [List.length_map]
  walk_at "rf"
  refine r_ite (fun c => ?_) (fun c => ?_)
  · have e : os = [] := List.eq_nil_of_length_eq_zero (by omega)
    subst e
    walk_at "rf"
    exact h H fun _ _ z => z
  obtain ⟨o, r, rfl⟩ : ∃ o r, os = o :: r := by
    cases os with
    | nil => exact absurd rfl c
    | cons o r => exact ⟨o, r, rfl⟩
  walk_at "rf"
  refine r_ixT (SqT.of hp) (atI_nat (j := 0) rfl) ?_
  walk_at "rf"
  refine ⟨_, rfl, o, rfl, fun H1 s1 => ⟨_, rfl, ?_⟩⟩
  cases cb : begT o with
  | false =>
    walk_at "rf"
    have h := h H1 s1
    rw [show isTk (o :: r) = false by (show (begT o && _) = false; rw [cb]; rfl)] at h
    exact h
  | true =>
    have ei : isTk (o :: r) = (o :: r).all goT := by
      show (begT o && _) = _
      rw [cb, Bool.true_and]
    rw [ei] at h
    generalize hos : o :: r = os at h hp hl
    walk_at "rf"
    refine ⟨p, rfl, ⟨_, SqT.of (s1 _ _ hp)⟩, fun D nD => ?_⟩
    refine lc_tup (xs := os.map V.int) (fun k H' => Same H1 H' ∧ H' D = some (.lst (((os.take k).filter fun c => !goT c).map V.int))) ⟨same_upd nD _, upd_same⟩ (fun i H' _ hh => SqT.of (hh.1 _ _ (s1 _ _ hp))) ?_ ?_
    · rintro k x H2 hx ⟨s2, g2⟩
      obtain ⟨c, hk, rfl, e⟩ := ints_get hx
      walk_at "rf"
      refine ⟨rfl, ?_⟩
      walk_at "rf"
      refine ⟨_, rfl, c, rfl, fun H3 s3 => ⟨_, rfl, ?_⟩⟩
      have hal : ((os.take k).filter fun c => !goT c).length ≤ 300 := Nat.le_trans (List.length_filter_le _ _) (Nat.le_trans (List.length_take_le' _ _) hl)
      cases cg : goT c with
      | true =>
        walk_at "rf"
        refine ⟨s2.trans s3, ?_⟩
        rw [s3 _ _ g2, e, List.filter_append, List.filter_cons_of_neg (by simp [cg])]
        simp
      | false =>
        walk_at "rf"
        refine ⟨_, s3 _ _ g2, small1000 (by rw [List.length_map]; omega), same_away (s2.trans s3) nD, ?_⟩
        rw [upd_same, map_snoc, e, List.filter_append, List.filter_cons_of_pos (by simp [cg])]
        rfl
    · rintro H2 ⟨s2, g2⟩
      rw [List.length_map, List.take_length] at g2
      walk_at "rf"
      refine ⟨by show 0 ≤ sizeLine; decide, fun q H3 nq g3 s3 => ?_⟩
      have e2 : (os.all goT) = PyData.eqv (.list ((os.filter fun c => !goT c).map PyData.int)) (.list []) := by
        cases hf : os.filter fun c => !goT c with
        | nil =>
          have : os.all goT = true := List.all_eq_true.mpr fun c hc => by
            by_cases g : goT c = true
            · exact g
            · have : c ∈ os.filter fun c => !goT c := List.mem_filter.mpr ⟨hc, by simpa using g⟩
              rw [hf] at this
              cases this
          rw [this]
          rfl
        | cons c t =>
          have hc : c ∈ os.filter fun c => !goT c := by rw [hf]; simp
          obtain ⟨h1, h2⟩ := List.mem_filter.mp hc
          have : os.all goT = false := List.all_eq_false.mpr ⟨c, h1, by simpa using h2⟩
          rw [this]
          rfl
      rw [e2] at h
      refine r_eqD (.lst (SqL.of (s3 _ _ g2)) (Tp.dpAllI _)) (.lst (SqL.of g3) .nil) (shaped_ints _) (shaped_ints []) ?_
      exact h H3 ((s1.trans s2).trans s3)
end

/-! ### the law's own loose writing -/



def sp__law_lacks (K : Frg) : Sp := sp1 fun v H Q _ => ∃ e : Ev, Tp H v e.dat ∧ (∀ k r, e = .lf k r → k ≠ "list") ∧ ∀ H', Same H H' → Q (.bl (lackE e)) H'
def sp__law_atom (K : Frg) : Sp := sp1 fun a H Q _ => ∃ (p : Addr) (os : List Int), a = .ref p ∧ H p = some (.tup (os.map V.int)) ∧ Oc os ∧ Out H (looseO os) Q
def sp__law_loosely (K : Frg) : Sp := sp2 fun a v H Q _ => ∃ (p : Addr) (h : Bool) (s : Sl) (e : Ev), a = .ref p ∧ H p = some (.lst [.bl h]) ∧ Tp H v e.dat ∧ SlOk s e ∧ (e = .cl ∨ befO s.st = hallO h) ∧
  ∀ (q : Addr) (H' : Hp), H q = none → H' q = some (.lst ((slO s e).map V.int)) → H' p = some (.lst [.bl (hallE e)]) → Ch [p] H H' → Q (.ref q) H'
abbrev HEXL : Str := "0123456789abcdef"
theorem hexd_all : ∀ k ∈ List.range 16, atI HEXL.cps.toList (k : Int) = some (hxd (k : Int)) := by decide +kernel
theorem hexd {d : Int} (h0 : 0 ≤ d) (h1 : d < 16) : atI HEXL.cps.toList d = some (hxd d) := by
  have := hexd_all d.toNat (List.mem_range.mpr (by omega))
  rwa [show ((d.toNat : Nat) : Int) = d by omega] at this
theorem hexl_len : HEXL.length ≤ sizeLine := by decide +kernel
section
variable {P : Program} {w : World} {K : PySem.W.Frag} {mg : Str → Option Value} {base : Heap} {f : Addr} {fd : FuncData}
theorem ok__law_lacks (F : FunD K "_law_lacks" "_law_lacks" (defArgs s__law_lacks) (defBody s__law_lacks) (defScope s__law_lacks) [] [] (glAd "_law_lacks" K) fd) (m : mg "_law_lacks" = some (.ref (glAd "_law_lacks" K))) (nb : Nm w K mg) : Cal P w K mg base 1 "_law_lacks" (sp__law_lacks K) [] := by
  refine calD F m sc__law_lacks (fun _ _ _ _ _ _ us hl => match us, hl with | [_], _ => rfl) len1 (fun cdv A outer s H vs Q E hr h => ⟨_, (pss_cons (ps_if (pt_cmpR op_eq (pe_ix ix_tup (pv 0) pe_int (fun _ _ => rfl)) pe_str (nomark _))
    (pss_one (ps_ret (pe_cmpR op_ne (pe_ix ix_tup (pv 0) pe_int (fun _ _ => rfl)) pe_str (nomark _))))
    pss_nil)
    (pss_one (ps_ret (pe_and (pe_cmpR op_eq (pe_ix ix_tup (pv 0) pe_int (fun _ _ => rfl)) pe_str (nomark _)) (pe_one (pe_cmpR op_ne (pe_ix ix_tup (pe_ix ix_tup (pv 0) pe_int (fun _ _ => rfl)) pe_int (fun _ _ => rfl)) pe_str (nomark _))))))), ?_⟩)
  obtain ⟨_, rfl, e, he, hk, hq⟩ := h
  have h := hq H (fun _ _ z => z)
  cases e with
  | lf k r =>
    obtain ⟨p, q, xs, rfl, hp, hq2, hx⟩ := ev_lf he
    walk_at "rf"
    refine r_ixT (SqT.of hp) (atI_nat (j := 0) rfl) ?_
    walk_at "rf"
    refine r_iteN (show ¬ ("leaf" : Str) = "open" by decide +kernel) ?_
    walk_at "rf"
    refine r_ixT (SqT.of hp) (atI_nat (j := 0) rfl) ?_
    walk_at "rf"
    refine r_ite (fun _ => ?_) (fun c => absurd rfl c)
    walk_at "rf"
    refine r_ixT (SqT.of hp) (atI_nat (j := 1) rfl) ?_
    walk_at "rf"
    refine r_ixT (SqT.of hq2) (atI_nat (j := 0) rfl) ?_
    walk_at "rf"
    have e : lackE (.lf k r) = decide (k ≠ "bytes") := by
      show (decide (k ≠ "bytes") && decide (k ≠ "list")) = _
      rw [decide_eq_true (hk k r rfl), Bool.and_true]
    rw [e] at h
    have e2 : decide (k ≠ "bytes") = !decide (k = "bytes") := by
      by_cases c : k = "bytes"
      · rw [decide_eq_true c, decide_eq_false (fun z => z c)]
        rfl
      · rw [decide_eq_false c, decide_eq_true c]
        rfl
    rw [e2] at h
    exact h
  | op mm =>
    obtain ⟨p, rfl, hp⟩ := ev_op he
    walk_at "rf"
    refine r_ixT (SqT.of hp) (atI_nat (j := 0) rfl) ?_
    walk_at "rf"
    refine r_ite (fun _ => ?_) (fun c => absurd rfl c)
    walk_at "rf"
    refine r_ixT (SqT.of hp) (atI_nat (j := 1) rfl) ?_
    walk_at "rf"
    have e : lackE (.op mm) = !decide (kindOf_ mm = "list") := by cases mm <;> decide +kernel
    rw [e] at h
    exact h
  | ky k =>
    obtain ⟨p, u, rfl, hp⟩ := ev_ky he
    walk_at "rf"
    refine r_ixT (SqT.of hp) (atI_nat (j := 0) rfl) ?_
    walk_at "rf"
    refine r_iteN (show ¬ ("key" : Str) = "open" by decide +kernel) ?_
    walk_at "rf"
    refine r_ixT (SqT.of hp) (atI_nat (j := 0) rfl) ?_
    walk_at "rf"
    refine r_iteN (show ¬ ("key" : Str) = "leaf" by decide +kernel) ?_
    exact h
  | cl =>
    obtain ⟨p, rfl, hp⟩ := ev_cl he
    walk_at "rf"
    refine r_ixT (SqT.of hp) (atI_nat (j := 0) rfl) ?_
    walk_at "rf"
    refine r_iteN (show ¬ ("close" : Str) = "open" by decide +kernel) ?_
    walk_at "rf"
    refine r_ixT (SqT.of hp) (atI_nat (j := 0) rfl) ?_
    walk_at "rf"
    refine r_iteN (show ¬ ("close" : Str) = "leaf" by decide +kernel) ?_
    exact h
theorem ok__law_atom (F : FunD K "_law_atom" "_law_atom" (defArgs s__law_atom) (defBody s__law_atom) (defScope s__law_atom) [] [] (glAd "_law_atom" K) fd) (m : mg "_law_atom" = some (.ref (glAd "_law_atom" K))) (nb : Nm w K mg) (c__law_is_token : Cal P w K mg base 4 "_law_is_token" (sp__law_is_token K) []) : Cal P w K mg base 5 "_law_atom" (sp__law_atom K) [] := by
  refine calD F m sc__law_atom (fun _ _ _ _ _ _ us hl => match us, hl with | [_], _ => rfl) len1 (fun cdv A outer s H vs Q E hr h => ⟨_, (pss_cons (ps_if (pt_val (pe_c c__law_is_token hr (by decide) rfl (pa_cons (pv 0) pa_nil)))
    (pss_one (ps_ret (pe_callTy call_list_ofE (by rfl) nb.list (by decide +kernel) (pa_cons (pv 0) pa_nil))))
    pss_nil)
    (pss_cons (ps_set (i := 1) sc__law_atom.nd rfl (Or.inl rfl) (pe_lstE pa_nil))
    (pss_cons (ps_if (pt_cmpR (op_eqD hr.units) (pe_lc (own := [("octet", 2)]) (g := gName 2) rfl sc__law_atom.nd (pi_tup (pv 0)) (blkOk_by (N := ["octets", "found", "octet", "digits"]) (sc := defScope s__law_atom) (by decide +kernel)) (fun _ _ _ _ _ => pg_name (i := 2) sc__law_atom.nd rfl (Or.inl rfl)) (fun _ _ _ _ _ => (pts_one (PW.pt (pw_or (pt_cmpR op_lt (pv 2) pe_int (nomark _)) (pw_or1 (pt_cmpR op_gt (pv 2) pe_int (nomark _))))))) (fun _ _ _ _ _ => (pv 2))) (pe_lstE pa_nil) (nomark _))
    (pss_cons (ps_for PassesOwn.never rfl (pi_tup (pv 0)) (pg_name (i := 2) sc__law_atom.nd rfl (Or.inl rfl))
    (pss_one (ps_set (i := 1) sc__law_atom.nd rfl (Or.inl rfl) (pe_op op_cat (pe_op op_cat (pv 1) (pe_op op_rep (pe_lstE (pa_cons pe_int pa_nil)) (pe_callTy call_int1 (by rfl) nb.int (by decide +kernel) (pa_cons (pe_cmpR op_in_seq (pv 2) (pe_lstE (pa_cons pe_int (pa_cons pe_int pa_nil))) rfl) pa_nil)))) (pe_lstE (pa_cons (pv 2) pa_nil))))))
    (pss_one (ps_ret (pe_op op_cat (pe_op op_cat (pe_lstE (pa_cons pe_int pa_nil)) (pv 1)) (pe_lstE (pa_cons pe_int pa_nil))))))
    pss_nil)
    (pss_cons (ps_set (i := 3) sc__law_atom.nd rfl (Or.inl rfl) pe_str)
    (pss_cons (ps_for PassesOwn.never rfl (pi_tup (pv 0)) (pg_name (i := 2) sc__law_atom.nd rfl (Or.inl rfl))
    (pss_one (ps_set (i := 1) sc__law_atom.nd rfl (Or.inl rfl) (pe_op op_cat (pv 1) (pe_lstE (pa_cons (pe_callB call_ord (by rfl) nb.ord (by decide +kernel) (pa_cons (pe_ix ix_str (pv 3) (pe_op op_fdiv (pv 2) pe_int) (fun _ _ => rfl)) pa_nil)) (pa_cons (pe_callB call_ord (by rfl) nb.ord (by decide +kernel) (pa_cons (pe_ix ix_str (pv 3) (pe_op op_mod (pe_callTy call_int1 (by rfl) nb.int (by decide +kernel) (pa_cons (pv 2) pa_nil)) pe_int) (fun _ _ => rfl)) pa_nil)) pa_nil)))))))
    (pss_one (ps_ret (pe_op op_cat (pe_op op_cat (pe_lstE (pa_cons pe_int pa_nil)) (pv 1)) (pe_lstE (pa_cons pe_int pa_nil)))))))))), ?_⟩)
  obtain ⟨_, rfl, p, os, rfl, hp, ho, h⟩ := h
  have hol := ho.1
  walk_at "rf"
  refine ⟨_, rfl, p, os, rfl, hp, ho.1, fun H1 s1 => ⟨_, rfl, ?_⟩⟩
  have hp1 := s1 _ _ hp
  unfold looseO at h
  cases ct : isTk os with
  | true =>
    rw [if_pos rfl]
    rw [if_pos ct] at h
    walk_at "rf"
    refine r_toLt (SqT.of hp1) fun r H3 n3 g3 s3 => ?_
    exact h r H3 (s1.free n3) g3 (s1.trans s3)
  | false =>
    rw [if_neg (by decide)]
    rw [if_neg (by rw [ct]; decide)] at h
    walk_at "rf"
    refine ⟨by show 0 ≤ sizeLine; decide, fun f H2 n2 g2 s2 => ?_⟩
    have s12 := s1.trans s2
    walk_at "rf"
    refine ⟨p, rfl, ⟨_, SqT.of (s12 _ _ hp)⟩, fun D nD => ?_⟩
    refine lc_tup (xs := os.map V.int) (fun k H' => Same H2 H' ∧ H' D = some (.lst (((os.take k).filter fun o => !(decide (32 ≤ o) && decide (o ≤ 126))).map V.int))) ⟨same_upd nD _, upd_same⟩ (fun i H' _ hh => SqT.of (hh.1 _ _ (s12 _ _ hp))) ?_ ?_
    · rintro k x H3 hx ⟨s3, g3⟩
      obtain ⟨c, hk, rfl, e⟩ := ints_get hx
      walk_at "rf"
      refine ⟨rfl, ?_⟩
      have put : ∀ b : Bool, b = (!(decide (32 ≤ c) && decide (c ≤ 126))) → (b = true → ∃ acc, H3 D = some (.lst acc) ∧ acc.length < sizeLine ∧ Same H2 (upd H3 D (.lst (acc ++ [V.int c]))) ∧ upd H3 D (.lst (acc ++ [V.int c])) D = some (.lst (((os.take (k + 1)).filter fun o => !(decide (32 ≤ o) && decide (o ≤ 126))).map V.int))) ∧ (b = false → Same H2 H3 ∧ H3 D = some (.lst (((os.take (k + 1)).filter fun o => !(decide (32 ≤ o) && decide (o ≤ 126))).map V.int))) := fun b eb => by
        have al : ((os.take k).filter fun o => !(decide (32 ≤ o) && decide (o ≤ 126))).length ≤ 300 := Nat.le_trans (List.length_filter_le _ _) (Nat.le_trans (List.length_take_le' _ _) hol)
        refine ⟨fun z => ?_, fun z => ?_⟩
        · refine ⟨_, g3, small1000 (by rw [List.length_map]; omega), same_away s3 nD, ?_⟩
          rw [upd_same, map_snoc, e, List.filter_append, List.filter_cons_of_pos (p := fun o : Int => !(decide (32 ≤ o) && decide (o ≤ 126))) (eb.symm.trans z)]
          rfl
        · refine ⟨s3, ?_⟩
          rw [g3, e, List.filter_append, List.filter_cons_of_neg (p := fun o : Int => !(decide (32 ≤ o) && decide (o ≤ 126))) (by show ¬ (!(decide (32 ≤ c) && decide (c ≤ 126))) = true; rw [← eb, z]; decide)]
          simp
      walk_at "rf"
      by_cases c1 : c < 32
      · rw [if_pos (by rw [decide_eq_true c1])]
        walk_at "rf"
        exact (put true (by rw [decide_eq_false (by omega), Bool.false_and]; rfl)).1 rfl
      · rw [if_neg (by rw [decide_eq_false c1]; decide)]
        walk_at "rf"
        by_cases c2 : 126 < c
        · rw [if_pos (by rw [decide_eq_true c2])]
          walk_at "rf"
          exact (put true (by rw [decide_eq_false (p := c ≤ 126) (by omega), Bool.and_false]; rfl)).1 rfl
        · rw [if_neg (by rw [decide_eq_false c2]; decide)]
          exact (put false (by rw [decide_eq_true (p := c ≤ 126) (by omega), decide_eq_true (p := 32 ≤ c) (by omega)]; rfl)).2 rfl
    · rintro H3 ⟨s3, g3⟩
      rw [List.length_map, List.take_length] at g3
      walk_at "rf"
      refine ⟨by show 0 ≤ sizeLine; decide, fun q H4 n4 g4 s4 => ?_⟩
      have e2 : plainO os = PyData.eqv (.list ((os.filter fun o => !(decide (32 ≤ o) && decide (o ≤ 126))).map PyData.int)) (.list []) := by
        cases hf : os.filter fun o => !(decide (32 ≤ o) && decide (o ≤ 126)) with
        | nil =>
          have : plainO os = true := List.all_eq_true.mpr fun c hc => by
            by_cases g : (decide (32 ≤ c) && decide (c ≤ 126)) = true
            · exact g
            · have : c ∈ os.filter fun o => !(decide (32 ≤ o) && decide (o ≤ 126)) := List.mem_filter.mpr ⟨hc, by rw [Bool.eq_false_iff.mpr g]; rfl⟩
              rw [hf] at this
              cases this
          rw [this]
          rfl
        | cons c t =>
          have hc : c ∈ os.filter fun o => !(decide (32 ≤ o) && decide (o ≤ 126)) := by rw [hf]; simp
          obtain ⟨h1, h2⟩ := List.mem_filter.mp hc
          have h2 : (!(decide (32 ≤ c) && decide (c ≤ 126))) = true := h2
          have : plainO os = false := List.all_eq_false.mpr ⟨c, h1, fun z => by rw [z] at h2; cases h2⟩
          rw [this]
          rfl
      have s24 := s3.trans s4
      have s14 := s12.trans s24
      refine r_eqD (.lst (SqL.of (s4 _ _ g3)) (Tp.dpAllI _)) (.lst (SqL.of g4) .nil) (shaped_ints _) (shaped_ints []) ?_
      rw [← e2]
      have g2 := s24 _ _ g2
      have hp4 := s14 _ _ hp
      refine ⟨_, rfl, ?_⟩
      cases cp : plainO os with
      | true =>
        rw [if_pos cp] at h
        walk_at "rf"
        refine ⟨p, rfl, ⟨_, SqT.of hp4⟩, ?_⟩
        refine r_eachT (xs := os.map V.int) (fun i σ H' => Same H H' ∧ ∃ (f : Addr) (y2 : Option V), H f = none ∧ H' f = some (.lst (((os.take i).flatMap qEsc).map V.int)) ∧ σ = [some (.ref p), some (.ref f), y2, none]) ⟨s14, f, _, s1.free n2, g2, rfl⟩ (fun i σ H' hh => SqT.of (hh.1 _ _ hp)) ?_ ?_
        · rintro i x σ H5 hx ⟨s5, f, y2, nf, g5, rfl⟩
          obtain ⟨o, hi, rfl, et⟩ := ints_get hx
          have hl : ((os.take i).flatMap qEsc).length ≤ 600 := by
            have := qesc_len (os.take i)
            rw [List.length_take] at this
            omega
          walk_at "rf"
          refine ⟨by show 1 ≤ sizeLine; decide, fun q6 H6 n6 g6 s6 => ?_⟩
          walk_at "rf"
          refine ⟨by show 2 ≤ sizeLine; decide, fun q7 H7 n7 g7 s7 => ?_⟩
          have g7 : H7 q7 = some (.lst (([34, 92] : List Int).map V.int)) := g7
          refine ⟨q7, _, rfl, .inl (SqL.of g7), rfl, rfl, ?_⟩
          rw [if_neg Bool.false_ne_true, in_ints]
          walk_at "rf"
          refine .inr ⟨_, rfl, ?_⟩
          have g6 : H6 q6 = some (.lst (([92] : List Int).map V.int)) := g6
          refine r_repI (z := 92) (s7 _ _ g6) (by split <;> decide) (by split <;> decide) fun q8 H8 n8 g8 s8 => ?_
          have s68 := (s6.trans s7).trans s8
          have e8 : (List.replicate (if decide (o ∈ [34, 92]) = true then (1 : Int) else 0).toNat (92 : Int)) ++ [o] = qEsc o := by
            unfold qEsc
            by_cases c : o = 34 ∨ o = 92
            · rw [if_pos c, if_pos (by rw [decide_eq_true (by simpa using c)])]
              rfl
            · rw [if_neg c, if_neg (by rw [decide_eq_false (by simpa using c)]; decide)]
              rfl
          have e9 : (List.replicate (if decide (o ∈ [34, 92]) = true then (1 : Int) else 0).toNat (92 : Int)).length ≤ 1 := by
            rw [List.length_replicate]
            split <;> decide
          generalize List.replicate (if decide (o ∈ [34, 92]) = true then (1 : Int) else 0).toNat (92 : Int) = rp at g8 e8 e9
          refine r_catB (s68 _ _ g5) g8 (by omega) fun q9 H9 n9 g9 s9 => ?_
          walk_at "rf"
          refine ⟨by show 1 ≤ sizeLine; decide, fun qa Ha na ga sa => ?_⟩
          have ga : Ha qa = some (.lst (([o] : List Int).map V.int)) := ga
          refine r_catB (sa _ _ g9) ga (by rw [List.length_append]; show _ + 1 ≤ _; omega) fun qb Hb nb_ gb sb => ?_
          walk_at "rf"
          have s5a := s5.trans (s68.trans (s9.trans sa))
          refine ⟨s5a.trans sb, qb, _, s5a.free nb_, ?_, rfl⟩
          rw [gb, et, List.flatMap_append, List.append_assoc, e8]
          simp
        · rintro σ H5 ⟨s5, f, y2, nf, g5, rfl⟩
          rw [List.length_map, List.take_length] at g5
          have hl : (os.flatMap qEsc).length ≤ 600 := by
            have := qesc_len os
            omega
          walk_at "rf"
          refine ⟨by show 1 ≤ sizeLine; decide, fun q6 H6 n6 g6 s6 => ?_⟩
          have g6 : H6 q6 = some (.lst (([34] : List Int).map V.int)) := g6
          walk_at "rf"
          refine r_catB g6 (s6 _ _ g5) (by show 1 + _ ≤ _; omega) fun q7 H7 n7 g7 s7 => ?_
          walk_at "rf"
          refine ⟨by show 1 ≤ sizeLine; decide, fun q8 H8 n8 g8 s8 => ?_⟩
          have g8 : H8 q8 = some (.lst (([34] : List Int).map V.int)) := g8
          refine r_catB (s8 _ _ g7) g8 (by rw [List.length_append]; show 1 + _ + 1 ≤ _; omega) fun q9 H9 n9 g9 s9 => ?_
          have s89 := ((s5.trans s6).trans s7).trans s8
          exact h q9 H9 (s89.free n9) g9 (s89.trans s9)
      | false =>
        rw [if_neg (by rw [cp]; decide)] at h
        walk_at "rf"
        refine ⟨p, rfl, ⟨_, SqT.of hp4⟩, ?_⟩
        refine r_eachT (xs := os.map V.int) (fun i σ H' => Same H H' ∧ ∃ (f : Addr) (y2 : Option V), H f = none ∧ H' f = some (.lst (((os.take i).flatMap hx2).map V.int)) ∧ σ = [some (.ref p), some (.ref f), y2, some (.str HEXL)]) ⟨s14, f, _, s1.free n2, g2, rfl⟩ (fun i σ H' hh => SqT.of (hh.1 _ _ hp)) ?_ ?_
        · rintro i x σ H5 hx ⟨s5, f, y2, nf, g5, rfl⟩
          obtain ⟨o, hi, rfl, et⟩ := ints_get hx
          obtain ⟨o0, o1⟩ := ho.2 o (List.mem_of_getElem? hi)
          have hl : ((os.take i).flatMap hx2).length ≤ 600 := by
            have := hx2_len (os.take i)
            rw [List.length_take] at this
            omega
          walk_at "rf"
          refine ⟨_, _, _, rfl, rfl, hexl_len, hexd (d := o / 16) (by omega) (by omega), ⟨_, rfl, rfl, ?_⟩⟩
          walk_at "rf"
          refine ⟨_, _, _, rfl, rfl, hexl_len, hexd (d := o % 16) (by omega) (by omega), ⟨_, rfl, rfl, ?_⟩⟩
          walk_at "rf"
          refine ⟨by show 2 ≤ sizeLine; decide, fun q6 H6 n6 g6 s6 => ?_⟩
          have g6 : H6 q6 = some (.lst ((hx2 o).map V.int)) := g6
          refine r_catB (s6 _ _ g5) g6 (by show _ + 2 ≤ _; omega) fun q7 H7 n7 g7 s7 => ?_
          walk_at "rf"
          have s67 := s5.trans s6
          refine ⟨s67.trans s7, q7, _, s67.free n7, ?_, rfl⟩
          rw [g7, et, List.flatMap_append]
          simp
        · rintro σ H5 ⟨s5, f, y2, nf, g5, rfl⟩
          rw [List.length_map, List.take_length] at g5
          have hl : (os.flatMap hx2).length ≤ 600 := by
            have := hx2_len os
            omega
          walk_at "rf"
          refine ⟨by show 1 ≤ sizeLine; decide, fun q6 H6 n6 g6 s6 => ?_⟩
          have g6 : H6 q6 = some (.lst (([35] : List Int).map V.int)) := g6
          walk_at "rf"
          refine r_catB g6 (s6 _ _ g5) (by show 1 + _ ≤ _; omega) fun q7 H7 n7 g7 s7 => ?_
          walk_at "rf"
          refine ⟨by show 1 ≤ sizeLine; decide, fun q8 H8 n8 g8 s8 => ?_⟩
          have g8 : H8 q8 = some (.lst (([35] : List Int).map V.int)) := g8
          refine r_catB (s8 _ _ g7) g8 (by rw [List.length_append]; show 1 + _ + 1 ≤ _; omega) fun q9 H9 n9 g9 s9 => ?_
          have s89 := ((s5.trans s6).trans s7).trans s8
          exact h q9 H9 (s89.free n9) g9 (s89.trans s9)
theorem ok__law_loosely (F : FunD K "_law_loosely" "_law_loosely" (defArgs s__law_loosely) (defBody s__law_loosely) (defScope s__law_loosely) [] [] (glAd "_law_loosely" K) fd) (m : mg "_law_loosely" = some (.ref (glAd "_law_loosely" K))) (nb : Nm w K mg) (c__law_atom : Cal P w K mg base 5 "_law_atom" (sp__law_atom K) []) : Cal P w K mg base 6 "_law_loosely" (sp__law_loosely K) [] := by
  refine calD F m sc__law_loosely (fun _ _ _ _ _ _ us hl => match us, hl with | [_, _], _ => rfl) len2 (fun cdv A outer s H vs Q E hr h => ⟨_, (pss_cons (ps_set (i := 2) sc__law_loosely.nd rfl (Or.inl rfl) (pe_op op_rep (pe_lstE (pa_cons pe_int pa_nil)) (pe_callTy call_int1 (by rfl) nb.int (by decide +kernel) (pa_cons (pe_ix ix_list (pv 0) pe_int (fun _ _ => rfl)) pa_nil))))
    (pss_cons (ps_asg (pe_cmpR op_ne (pe_ix ix_tup (pv 1) pe_int (fun _ _ => rfl)) pe_str (nomark _)) (pg_sub (pv 0) pe_int set_list))
    (pss_cons (ps_if (pt_cmpR op_eq (pe_ix ix_tup (pv 1) pe_int (fun _ _ => rfl)) pe_str (nomark _))
    (pss_one (ps_ret (pe_lstE (pa_cons pe_int pa_nil))))
    pss_nil)
    (pss_cons (ps_if (pt_cmpR op_eq (pe_ix ix_tup (pv 1) pe_int (fun _ _ => rfl)) pe_str (nomark _))
    (pss_one (ps_ret (pe_op op_cat (pv 2) (pe_lstE (pa_cons pe_int pa_nil)))))
    pss_nil)
    (pss_one (ps_ret (pe_op op_cat (pv 2) (pe_c c__law_atom hr (by decide) rfl (pa_cons (pe_ix ix_tup (pe_ix ix_tup (pv 1) pe_int (fun _ _ => rfl)) pe_int (fun _ _ => rfl)) pa_nil))))))))), ?_⟩)
  obtain ⟨_, _, rfl, p, h0, s, e, rfl, hp, he, ok, hh, h⟩ := h
  walk_at "rf"
  refine ⟨by show 1 ≤ sizeLine; decide, fun q1 H1 n1 g1 s1 => ?_⟩
  have g1 : H1 q1 = some (.lst (([32] : List Int).map V.int)) := g1
  walk_at "rf"
  refine r_ixL (SqL.of (s1 _ _ hp)) (atI_nat (j := 0) rfl) ?_
  refine .inr ⟨h0, rfl, ?_⟩
  refine r_repI (z := 32) g1 (by split <;> decide) (by split <;> decide) fun q2 H2 n2 g2 s2 => ?_
  have eh : List.replicate (if h0 = true then (1 : Int) else 0).toNat (32 : Int) = hallO h0 := by cases h0 <;> rfl
  have eh1 : (List.replicate (if h0 = true then (1 : Int) else 0).toNat (32 : Int)).length ≤ 1 := by
    rw [eh]
    cases h0 <;> decide
  generalize List.replicate (if h0 = true then (1 : Int) else 0).toNat (32 : Int) = rp at g2 eh eh1
  have s02 := s1.trans s2
  have hp2 := s02 _ _ hp
  have he2 := Tp.tk (Same.tk s02) _ _ he
  have fin : ∀ (b : Bool) (H3 : Hp), H3 = upd H2 p (.lst [.bl b]) → H3 p = some (.lst [.bl b]) ∧ Ch [p] H H3 ∧ Ch [p] H2 H3 ∧ H3 q2 = some (.lst (rp.map V.int)) := fun b H3 e => by
    have c : Ch [p] H2 H3 := by
      rw [e]
      exact ch_put hp2
    have q2p : q2 ≠ p := fun z => by
      rw [z, s1 _ _ hp] at n2
      cases n2
    exact ⟨by rw [e, upd_same], c.ch (fun x hx => .inl hx) (Ch.same s02 Ch.refl), c, c.get (by simp [q2p]) g2⟩
  cases e with
  | ky k => exact ok.elim
  | cl =>
    obtain ⟨p', rfl, hp'⟩ := ev_cl he2
    walk_at "rf"
    refine r_ixT (SqT.of hp') (atI_nat (j := 0) rfl) ?_
    walk_at "rf"
    rw [show (!decide (("close" : Str) = "open")) = true by decide +kernel]
    refine r_setL hp2 rfl ?_
    generalize hH3 : upd H2 p (HO.lst _) = H3
    obtain ⟨g3, c03, c23, q3⟩ := fin true H3 hH3.symm
    walk_at "rf"
    refine r_ixT (SqT.of (c23.tup hp')) (atI_nat (j := 0) rfl) ?_
    walk_at "rf"
    refine r_ite (fun _ => ?_) (fun c => absurd rfl c)
    walk_at "rf"
    refine ⟨by show 1 ≤ sizeLine; decide, fun q4 H4 n4 g4 s4 => ?_⟩
    exact h q4 H4 ((c03.fresh n4).resolve_left (fun z => by rw [List.mem_singleton.mp z, g3] at n4; cases n4)) g4 (s4 _ _ g3) (Ch.same s4 c03)
  | op mm =>
    obtain ⟨p', rfl, hp'⟩ := ev_op he2
    walk_at "rf"
    refine r_ixT (SqT.of hp') (atI_nat (j := 0) rfl) ?_
    walk_at "rf"
    rw [show (!decide (("open" : Str) = "open")) = false by decide +kernel]
    refine r_setL hp2 rfl ?_
    generalize hH3 : upd H2 p (HO.lst _) = H3
    obtain ⟨g3, c03, c23, q3⟩ := fin false H3 hH3.symm
    walk_at "rf"
    refine r_ixT (SqT.of (c23.tup hp')) (atI_nat (j := 0) rfl) ?_
    walk_at "rf"
    refine r_iteN (show ¬ ("open" : Str) = "close" by decide +kernel) ?_
    walk_at "rf"
    refine r_ixT (SqT.of (c23.tup hp')) (atI_nat (j := 0) rfl) ?_
    walk_at "rf"
    refine r_ite (fun _ => ?_) (fun c => absurd rfl c)
    walk_at "rf"
    refine ⟨by show 1 ≤ sizeLine; decide, fun q4 H4 n4 g4 s4 => ?_⟩
    have g4 : H4 q4 = some (.lst (([40] : List Int).map V.int)) := g4
    refine r_catB (s4 _ _ q3) g4 (by show _ + 1 ≤ _; omega) fun q5 H5 n5 g5 s5 => ?_
    have c04 := Ch.same s4 c03
    refine h q5 H5 ((c04.fresh n5).resolve_left (fun z => by rw [List.mem_singleton.mp z, s4 _ _ g3] at n5; cases n5)) ?_ (s5 _ _ (s4 _ _ g3)) (Ch.same s5 c04)
    rw [g5, eh, ← hh.resolve_left (fun z => by cases z)]
    rfl
  | lf k r =>
    obtain ⟨rfl, os, rfl, ho⟩ := ok
    obtain ⟨p', q', xs, rfl, hp', hq', hx⟩ := ev_lf he2
    walk_at "rf"
    refine r_ixT (SqT.of hp') (atI_nat (j := 0) rfl) ?_
    walk_at "rf"
    rw [show (!decide (("leaf" : Str) = "open")) = true by decide +kernel]
    refine r_setL hp2 rfl ?_
    generalize hH3 : upd H2 p (HO.lst _) = H3
    obtain ⟨g3, c03, c23, q3⟩ := fin true H3 hH3.symm
    walk_at "rf"
    refine r_ixT (SqT.of (c23.tup hp')) (atI_nat (j := 0) rfl) ?_
    walk_at "rf"
    refine r_iteN (show ¬ ("leaf" : Str) = "close" by decide +kernel) ?_
    walk_at "rf"
    refine r_ixT (SqT.of (c23.tup hp')) (atI_nat (j := 0) rfl) ?_
    walk_at "rf"
    refine r_iteN (show ¬ ("leaf" : Str) = "open" by decide +kernel) ?_
    walk_at "rf"
    refine r_ixT (SqT.of (c23.tup hp')) (atI_nat (j := 1) rfl) ?_
    walk_at "rf"
    obtain ⟨t0, ex, ht0⟩ : ∃ t0, xs = [.ref t0] ∧ H2 t0 = some (.tup (os.map V.int)) := by
      cases hx with
      | cons h1 h2 =>
        cases h2
        obtain ⟨t0, rfl, ht⟩ := tp_kdB h1
        exact ⟨t0, rfl, ht⟩
    subst ex
    refine r_ixT (SqT.of (c23.tup hq')) (atI_nat (j := 1) rfl) ?_
    walk_at "rf"
    refine ⟨_, rfl, t0, os, rfl, c23.tup ht0, ho, fun q4 H4 n4 g4 s4 => ?_⟩
    refine r_catB (s4 _ _ q3) g4 (by have := loose_len ho; omega) fun q5 H5 n5 g5 s5 => ?_
    have c04 := Ch.same s4 c03
    refine h q5 H5 ((c04.fresh n5).resolve_left (fun z => by rw [List.mem_singleton.mp z, s4 _ _ g3] at n5; cases n5)) ?_ (s5 _ _ (s4 _ _ g3)) (Ch.same s5 c04)
    rw [g5, eh, ← hh.resolve_left (fun z => by cases z), slO_lf]
end

/-! ### the events of a value, by the law -/

theorem tpM_perm {H : Hp} {ys xs : List V} (p : ys.Perm xs) : ∀ es : List (List Int × Vl), TpAll H xs (datM es) → ∃ es', es'.Perm es ∧ TpAll H ys (datM es') := by
  induction p with
  | nil => exact fun es h => ⟨es, .refl _, h⟩
  | cons x _ ih =>
    intro es h
    cases es with
    | nil => cases h
    | cons e es =>
      obtain ⟨k, v⟩ := e
      cases h with
      | cons h1 h2 =>
        obtain ⟨es', p', t'⟩ := ih es h2
        exact ⟨(k, v) :: es', p'.cons _, .cons h1 t'⟩
  | swap x y l =>
    intro es h
    match es, h with
    | [], h => cases h
    | [_], h =>
      cases h with
      | cons h1 h2 => cases h2
    | (k, v) :: (k2, v2) :: es, h =>
      cases h with
      | cons h1 h2 =>
        cases h2 with
        | cons h2 h3 => exact ⟨(k2, v2) :: (k, v) :: es, .swap _ _ _, .cons h2 (.cons h1 h3)⟩
  | trans _ _ ih1 ih2 =>
    intro es h
    obtain ⟨es2, p2, t2⟩ := ih2 es h
    obtain ⟨es1, p1, t1⟩ := ih1 es2 t2
    exact ⟨es1, p1.trans p2, t1⟩
theorem vszM_perm {xs ys : List (List Int × Vl)} (p : xs.Perm ys) : vszM xs = vszM ys := by
  rw [vszM_sum, vszM_sum, (p.map _).sum_nat, p.length_eq]
/-- list + list, of anything -/
theorem r_catV {a b : Addr} {xs ys : List V} {H : Hp} {Q : VK} (h1 : H a = some (.lst xs)) (h2 : H b = some (.lst ys)) (hl : xs.length + ys.length ≤ 16700000) (h : ∀ p H', H p = none → H' p = some (.lst (xs ++ ys)) → Same H H' → Q (.ref p) H') : rCat (.ref a) (.ref b) H Q :=
  ⟨a, b, _, _, rfl, rfl, h1, h2, Nat.le_trans hl (by decide : 16700000 ≤ sizeLine), fun p hp => h p _ hp upd_same (same_upd hp _)⟩
theorem vszL_take : ∀ (xs : List Vl) (i : Nat), vszL (xs.take i) ≤ vszL xs
  | [], i => by simp [vszL]
  | x :: xs, 0 => Nat.zero_le _
  | x :: xs, i + 1 => by
    have := vszL_take xs i
    show vsz x + vszL (xs.take i) ≤ vsz x + vszL xs
    omega
theorem vszL_mem : ∀ {xs : List Vl} {x : Vl}, x ∈ xs → vsz x ≤ vszL xs
  | y :: xs, x, h => by
    rcases List.mem_cons.mp h with e | h
    · rw [e]
      show _ ≤ vsz y + vszL xs
      omega
    · have := vszL_mem h
      show _ ≤ vsz y + vszL xs
      omega
theorem vszM_take : ∀ (xs : List (List Int × Vl)) (i : Nat), vszM (xs.take i) ≤ vszM xs
  | [], i => by simp [vszM]
  | (k, x) :: xs, 0 => Nat.zero_le _
  | (k, x) :: xs, i + 1 => by
    have := vszM_take xs i
    show 1 + vsz x + vszM (xs.take i) ≤ 1 + vsz x + vszM xs
    omega
theorem vszM_mem : ∀ {xs : List (List Int × Vl)} {x : List Int × Vl}, x ∈ xs → vsz x.2 ≤ vszM xs
  | (k, y) :: xs, x, h => by
    rcases List.mem_cons.mp h with e | h
    · rw [e]
      show vsz y ≤ 1 + vsz y + vszM xs
      omega
    · have := vszM_mem h
      show _ ≤ 1 + vsz y + vszM xs
      omega
theorem vszL_snoc (xs : List Vl) (x : Vl) : vszL (xs ++ [x]) = vszL xs + vsz x := by rw [vszL_app]; show _ + (_ + 0) = _; omega
theorem vszM_app : ∀ (xs ys : List (List Int × Vl)), vszM (xs ++ ys) = vszM xs + vszM ys
  | [], ys => (Nat.zero_add _).symm
  | (k, x) :: xs, ys => by
    show 1 + vsz x + vszM (xs ++ ys) = 1 + vsz x + vszM xs + vszM ys
    rw [vszM_app xs ys]
    omega
theorem vszM_snoc (xs : List (List Int × Vl)) (k : List Int) (x : Vl) : vszM (xs ++ [(k, x)]) = vszM xs + (1 + vsz x) := by rw [vszM_app]; show _ + (_ + 0) = _; omega
def sp__law_events (K : Frg) (n : Nat) : Sp := sp2 fun a b H Q _ => ∃ (S : SC) (l : Int) (t : Vl) (d : Nat), a = .ref S.a ∧ Tp H b t.dat ∧ t.gf d ∧ d < n ∧ LB K S l H ∧ vsz t ≤ 7000 ∧
  ∀ (p : Addr) (vs : List V) (es : List Ev) (H' : Hp), EvR t es → es.length ≤ 2 * vsz t → H p = none → p ≠ S.a → H' p = some (.lst vs) → TpAll H' vs (evD es) → LB K S l H' → Keep S H H' → Q (.ref p) H'
theorem no__law_events {K : Frg} {vs : List V} {H : Hp} {Q : VK} {E : XK} (h : sp__law_events K 0 vs H Q E) : False := by
  obtain ⟨_, _, rfl, S, l, t, d, _, _, _, h, _⟩ := h
  exact absurd h (Nat.not_lt_zero _)
section
variable {P : Program} {w : World} {K : PySem.W.Frag} {mg : Str → Option Value} {base : Heap} {f : Addr} {fd : FuncData}
theorem ok__law_events (n : Nat) (F : FunD K "_law_events" "_law_events" (defArgs s__law_events) (defBody s__law_events) (defScope s__law_events) [] [] (glAd "_law_events" K) fd) (m : mg "_law_events" = some (.ref (glAd "_law_events" K))) (nb : Nm w K mg) (c__law_mixed : Cal P w K mg base 2 "_law_mixed" (sp__law_mixed K) []) (c__law_events : Cal P w K mg base (3 + n) "_law_events" (sp__law_events K n) []) : Cal P w K mg base (3 + n + 1) "_law_events" (sp__law_events K (n + 1)) [] := by
  refine calD F m sc__law_events (fun _ _ _ _ _ _ us hl => match us, hl with | [_, _], _ => rfl) len2 (fun cdv A outer s H vs Q E hr h => ⟨_, (pss_cons (ps_if (pt_cmpR op_eq (pe_ix ix_tup (pv 1) pe_int (fun _ _ => rfl)) pe_str (nomark _))
    (pss_cons (ps_set (i := 2) sc__law_events.nd rfl (Or.inl rfl) (pe_lstE (pa_cons (pe_tupE (pa_cons pe_str (pa_cons pe_str pa_nil))) pa_nil)))
    (pss_cons (ps_for PassesOwn.never rfl (pi_tup (pe_ix ix_tup (pv 1) pe_int (fun _ _ => rfl))) (pg_name (i := 3) sc__law_events.nd rfl (Or.inl rfl))
    (pss_one (ps_set (i := 2) sc__law_events.nd rfl (Or.inl rfl) (pe_op op_cat (pv 2) (pe_c c__law_events hr (by omega) rfl (pa_cons (pv 0) (pa_cons (pv 3) pa_nil)))))))
    (pss_one (ps_ret (pe_op op_cat (pv 2) (pe_lstE (pa_cons (pe_tupE (pa_cons pe_str pa_nil)) pa_nil)))))))
    pss_nil)
    (pss_cons (ps_if (pt_cmpR op_eq (pe_ix ix_tup (pv 1) pe_int (fun _ _ => rfl)) pe_str (nomark _))
    (pss_cons (ps_set (i := 2) sc__law_events.nd rfl (Or.inl rfl) (pe_lstE (pa_cons (pe_tupE (pa_cons pe_str (pa_cons pe_str pa_nil))) pa_nil)))
    (pss_cons (ps_for PassesOwn.never rfl (pi_list (pe_c c__law_mixed hr (by omega) rfl (pa_cons (pv 0) (pa_cons (pe_ix ix_tup (pv 1) pe_int (fun _ _ => rfl)) pa_nil)))) (pg_name (i := 4) sc__law_events.nd rfl (Or.inl rfl))
    (pss_one (ps_set (i := 2) sc__law_events.nd rfl (Or.inl rfl) (pe_op op_cat (pe_op op_cat (pv 2) (pe_lstE (pa_cons (pe_tupE (pa_cons pe_str (pa_cons (pe_ix ix_tup (pv 4) pe_int (fun _ _ => rfl)) pa_nil))) pa_nil))) (pe_c c__law_events hr (by omega) rfl (pa_cons (pv 0) (pa_cons (pe_ix ix_tup (pv 4) pe_int (fun _ _ => rfl)) pa_nil)))))))
    (pss_one (ps_ret (pe_op op_cat (pv 2) (pe_lstE (pa_cons (pe_tupE (pa_cons pe_str pa_nil)) pa_nil)))))))
    pss_nil)
    (pss_one (ps_ret (pe_lstE (pa_cons (pe_tupE (pa_cons pe_str (pa_cons (pv 1) pa_nil))) pa_nil)))))), ?_⟩)
  obtain ⟨_, v, rfl, S, l, t, d, rfl, tp, gf, hd, L, hs, h⟩ := h
  -- 0:state 1:value 2:found 3:item 4:entry
  cases t with
  | lf k r =>
    have lg : Lg k r := by cases d <;> exact gf
    have kind : k ≠ "list" ∧ k ≠ "map" := by
      cases lg with
      | bytes os _ => exact ⟨by decide +kernel, by decide +kernel⟩
      | odd k r _ h2 h3 => exact ⟨h2, h3⟩
    obtain ⟨a, ws, rfl, ha, hw⟩ := tp_lf tp
    walk_at "rf"
    refine r_ixT (SqT.of ha) (atI_nat (j := 0) rfl) ?_
    walk_at "rf"
    refine r_iteN kind.1 ?_
    walk_at "rf"
    refine r_ixT (SqT.of ha) (atI_nat (j := 0) rfl) ?_
    walk_at "rf"
    refine r_iteN kind.2 ?_
    walk_at "rf"
    refine ⟨by show 2 ≤ sizeLine; decide, fun q1 H1 n1 g1 s1 => ?_⟩
    walk_at "rf"
    refine ⟨by show 1 ≤ sizeLine; decide, fun q2 H2 n2 g2 s2 => ?_⟩
    have s12 := s1.trans s2
    exact h q2 _ _ H2 .lf (by show 1 ≤ 2; decide) (s1.free n2) ((L.same s1).ne_free n2) g2 (.cons (.tup (s2 _ _ g1) (.cons (.str _) (.cons (.tup (s12 _ _ ha) (.cons (.str _) (TpAll.tk (Same.tk s12) _ _ hw))) .nil))) .nil) (L.same s12) (Keep.of s12)
  | ls xs =>
    obtain ⟨d, rfl⟩ : ∃ d', d = d' + 1 := by
      cases d with
      | zero => exact (show False from gf).elim
      | succ d => exact ⟨d, rfl⟩
    have gf : xs.length ≤ 49 ∧ gfL d xs := gf
    have hs : 1 + vszL xs ≤ 7000 := hs
    obtain ⟨a, b, ws, rfl, ha, hb, hw⟩ := tp_ls tp
    have hwl : ws.length = xs.length := by rw [tpAll_len hw, datL_map, List.length_map]
    walk_at "rf"
    refine r_ixT (SqT.of ha) (atI_nat (j := 0) rfl) ?_
    walk_at "rf"
    refine r_ite (fun _ => ?_) (fun c => absurd rfl c)
    walk_at "rf"
    refine ⟨by show 2 ≤ sizeLine; decide, fun q1 H1 n1 g1 s1 => ?_⟩
    walk_at "rf"
    refine ⟨by show 1 ≤ sizeLine; decide, fun q2 H2 n2 g2 s2 => ?_⟩
    have s12 := s1.trans s2
    walk_at "rf"
    refine r_ixT (SqT.of (s12 _ _ ha)) (atI_nat (j := 1) rfl) ?_
    walk_at "rf"
    refine ⟨b, rfl, ⟨ws, SqT.of (s12 _ _ hb)⟩, ?_⟩
    refine r_eachT (xs := ws) (fun i σ H' => LB K S l H' ∧ Keep S H H' ∧ ∃ (p : Addr) (vs : List V) (es : List Ev) (y3 : Option V), EvRL (xs.take i) es ∧ es.length ≤ 2 * vszL (xs.take i) ∧ H p = none ∧ p ≠ S.a ∧ H' p = some (.lst vs) ∧ TpAll H' vs (evD (.op false :: es)) ∧ σ = [some (.ref S.a), some (.ref a), some (.ref p), y3, none]) ⟨L.same s12, Keep.of s12, q2, _, [], _, .nil, Nat.zero_le _, s1.free n2, (L.same s1).ne_free n2, g2, .cons (.tup (s2 _ _ g1) (.cons (.str _) (.cons (.str _) .nil))) .nil, rfl⟩ (fun i σ H' hh => SqT.of (keep_tk L.ls hh.2.1 _ _ hb)) ?_ ?_
    · rintro i x σ H3 hx ⟨L3, k3, p, vs, es, y3, er, el, np, ps, g3, te, rfl⟩
      have hi : i < ws.length := (List.getElem?_eq_some_iff.mp hx).1
      have hx2 : xs[i]? = some xs[i] := List.getElem?_eq_getElem (by omega)
      obtain ⟨dd, e1, e2⟩ := tpAll_get hw hx
      have tx : Tp H x (xs[i]).dat := by
        rw [datL_map, List.getElem?_map, hx2] at e1
        cases e1
        exact e2
      have hm : xs[i] ∈ xs := List.getElem_mem _
      have et : xs.take (i + 1) = xs.take i ++ [xs[i]] := take_one hx2
      have b1 := vszL_take xs i
      have b2 := vszL_mem hm
      have vl : vs.length = es.length + 1 := by
        have := tpAll_len te
        rw [evD_len] at this
        exact this
      walk_at "rf"
      refine ⟨_, _, rfl, S, l, xs[i], d, rfl, Tp.tk (keep_tk L.ls k3) _ _ tx, gfL_mem gf.2 _ hm, by omega, L3, by omega, fun p9 vs9 es9 H9 r9 l9 n9 ne9 g9 t9 L9 k9 => ?_⟩
      have vl9 : vs9.length = es9.length := by
        have := tpAll_len t9
        rw [evD_len] at this
        exact this
      refine r_catV (k9 _ _ ps g3) g9 (by omega) fun pa Ha na ga sa => ?_
      walk_at "rf"
      refine ⟨L9.same sa, (k3.trans k9).trans (Keep.of sa), pa, vs ++ vs9, es ++ es9, _, by rw [et]; exact er.snoc r9, by rw [et, vszL_snoc, List.length_append]; omega, (k3.trans k9).free L9.ls na, L9.ne_free na, ga, ?_, rfl⟩
      rw [← List.cons_append, evD_app]
      exact tpAll_app (TpAll.tk ((keep_tk L3.ls k9).trans (Same.tk sa)) _ _ te) (TpAll.tk (Same.tk sa) _ _ t9)
    · rintro σ H3 ⟨L3, k3, p, vs, es, y3, er, el, np, ps, g3, te, rfl⟩
      rw [hwl, List.take_length] at er el
      have vl : vs.length = es.length + 1 := by
        have := tpAll_len te
        rw [evD_len] at this
        exact this
      walk_at "rf"
      refine ⟨by show 1 ≤ sizeLine; decide, fun q4 H4 n4 g4 s4 => ?_⟩
      walk_at "rf"
      refine ⟨by show 1 ≤ sizeLine; decide, fun q5 H5 n5 g5 s5 => ?_⟩
      have s45 := s4.trans s5
      refine r_catV (s45 _ _ g3) g5 (by show _ + 1 ≤ _; omega) fun pa Ha na ga sa => ?_
      have s4a := s45.trans sa
      refine h pa _ (.op false :: (es ++ [.cl])) Ha (.ls er) (by rw [List.length_cons, List.length_append]; show _ + 1 + 1 ≤ 2 * (1 + vszL xs); omega) ((k3.trans (Keep.of s45)).free (L3.same s45).ls na) ((L3.same s45).ne_free na) ga ?_ (L3.same s4a) (k3.trans (Keep.of s4a))
      rw [← List.cons_append, evD_app]
      exact tpAll_app (TpAll.tk (Same.tk s4a) _ _ te) (.cons (tp_cl (sa _ _ (s5 _ _ g4))) .nil)
  | mp xs =>
    obtain ⟨d, rfl⟩ : ∃ d', d = d' + 1 := by
      cases d with
      | zero => exact (show False from gf).elim
      | succ d => exact ⟨d, rfl⟩
    have gf : xs.length ≤ 49 ∧ (∀ e ∈ xs, Kp e.1) ∧ gfM d xs := gf
    have hs : 1 + vszM xs ≤ 7000 := hs
    obtain ⟨a, b, ws, rfl, ha, hb, hw⟩ := tp_mp tp
    have hwl : ws.length = xs.length := by rw [tpAll_len hw, datM_map, List.length_map]
    walk_at "rf"
    refine r_ixT (SqT.of ha) (atI_nat (j := 0) rfl) ?_
    walk_at "rf"
    refine r_iteN (show ¬ ("map" : Str) = "list" by decide +kernel) ?_
    walk_at "rf"
    refine r_ixT (SqT.of ha) (atI_nat (j := 0) rfl) ?_
    walk_at "rf"
    refine r_ite (fun _ => ?_) (fun c => absurd rfl c)
    walk_at "rf"
    refine ⟨by show 2 ≤ sizeLine; decide, fun q1 H1 n1 g1 s1 => ?_⟩
    walk_at "rf"
    refine ⟨by show 1 ≤ sizeLine; decide, fun q2 H2 n2 g2 s2 => ?_⟩
    have s12 := s1.trans s2
    have L2 := L.same s12
    have q2s := (L.same s1).ne_free n2
    walk_at "rf"
    refine r_ixT (SqT.of (s12 _ _ ha)) (atI_nat (j := 1) rfl) ?_
    walk_at "rf"
    refine ⟨_, _, rfl, S, l, b, ws, rfl, rfl, s12 _ _ hb, by omega, L2, fun q ys H3 pm nq qs gq L3 k3 => ?_⟩
    obtain ⟨zs, pz, tz⟩ := tpM_perm pm xs hw
    have zl : ys.length = zs.length := by rw [tpAll_len tz, datM_map, List.length_map]
    have zm : vszM zs = vszM xs := vszM_perm pz
    have k03 := (Keep.of s12).trans k3
    walk_at "rf"
    refine ⟨q, rfl, ⟨ys, SqL.of gq⟩, ?_⟩
    refine r_eachL (xs := ys) (fun i σ H' => LB K S l H' ∧ Keep S H H' ∧ H' q = some (.lst ys) ∧ ∃ (p : Addr) (vs : List V) (es : List Ev) (y3 : Option V), es.length ≤ 2 * vszM (zs.take i) ∧ H p = none ∧ p ≠ S.a ∧ H' p = some (.lst vs) ∧ TpAll H' vs (evD (.op true :: es)) ∧ σ = [some (.ref S.a), some (.ref a), some (.ref p), none, y3]) ⟨L3, k03, gq, q2, _, [], _, Nat.zero_le _, s1.free n2, q2s, k3 _ _ q2s g2, .cons (Tp.tk (keep_tk L2.ls k3) _ _ (.tup (s2 _ _ g1) (.cons (.str _) (.cons (.str _) .nil)))) .nil, rfl⟩ (fun i σ H' hh => SqL.of hh.2.2.1) ?_ ?_
    · rintro i x σ H4 hx ⟨L4, k4, gq4, p, vs, es, y3, el, np, ps, g4, te, rfl⟩
      have hi : i < ys.length := (List.getElem?_eq_some_iff.mp hx).1
      have hx2 : zs[i]? = some zs[i] := List.getElem?_eq_getElem (by omega)
      obtain ⟨dd, e1, e2⟩ := tpAll_get tz hx
      generalize hze : zs[i] = ze at hx2
      obtain ⟨kk, zv⟩ := ze
      have tx : Tp H x (.tuple [kd kk, zv.dat]) := by
        rw [datM_map, List.getElem?_map, hx2] at e1
        cases e1
        exact e2
      have hm : (kk, zv) ∈ zs := List.mem_of_getElem? hx2
      have et : zs.take (i + 1) = zs.take i ++ [(kk, zv)] := take_one hx2
      have b1 := vszM_take zs (i + 1)
      rw [et, vszM_snoc] at b1
      have gz : zv.gf d := gfM_mem gf.2.2 (kk, zv) (pz.mem_iff.mp hm)
      have vl : vs.length = es.length + 1 := by
        have := tpAll_len te
        rw [evD_len] at this
        exact this
      obtain ⟨t0, q0, u, rfl, ht0, hq0, tu⟩ := tp_en (Tp.tk (keep_tk L.ls k4) _ _ tx)
      walk_at "rf"
      refine r_ixT (SqT.of ht0) (atI_nat (j := 0) rfl) ?_
      walk_at "rf"
      refine ⟨by show 2 ≤ sizeLine; decide, fun q5 H5 n5 g5 s5 => ?_⟩
      walk_at "rf"
      refine ⟨by show 1 ≤ sizeLine; decide, fun q6 H6 n6 g6 s6 => ?_⟩
      have s46 := s5.trans s6
      refine r_catV (s46 _ _ g4) g6 (by show _ + 1 ≤ _; omega) fun q7 H7 n7 g7 s7 => ?_
      have s47 := s46.trans s7
      have L6 := L4.same s46
      have q7s := L6.ne_free n7
      have L7 := L6.same s7
      walk_at "rf"
      refine r_ixT (SqT.of (s47 _ _ ht0)) (atI_nat (j := 1) rfl) ?_
      walk_at "rf"
      refine ⟨_, _, rfl, S, l, zv, d, rfl, Tp.tk (Same.tk s47) _ _ tu, gz, by omega, L7, by omega, fun p9 vs9 es9 H9 r9 l9 n9 ne9 g9 t9 L9 k9 => ?_⟩
      have vl9 : vs9.length = es9.length := by
        have := tpAll_len t9
        rw [evD_len] at this
        exact this
      have k49 : Keep S H4 H9 := (Keep.of s47).trans k9
      refine r_catV (k9 _ _ q7s g7) g9 (by rw [List.length_append]; show _ + 1 + _ ≤ _; omega) fun pa Ha na ga sa => ?_
      walk_at "rf"
      refine ⟨L9.same sa, (k4.trans k49).trans (Keep.of sa), sa _ _ (k49 _ _ qs gq4), pa, _, es ++ [.ky kk] ++ es9, _, ?_, (k4.trans k49).free L9.ls na, L9.ne_free na, ga, ?_, rfl⟩
      · rw [et, vszM_snoc, List.length_append, List.length_append]
        show _ + 1 + _ ≤ _
        omega
      · rw [← List.cons_append, ← List.cons_append, evD_app, evD_app]
        have tk9 := (keep_tk L7.ls k9).trans (Same.tk sa)
        refine tpAll_app (tpAll_app (TpAll.tk ((Same.tk s47).trans tk9) _ _ te) (.cons (Tp.tk tk9 _ _ (.tup (s7 _ _ (s6 _ _ g5)) (.cons (.str _) (.cons (tp_kd (s47 _ _ hq0)) .nil)))) .nil)) (TpAll.tk (Same.tk sa) _ _ t9)
    · rintro σ H3' ⟨L3, k3, gq3, p, vs, es, y3, el, np, ps, g3, te, rfl⟩
      rw [zl, List.take_length, zm] at el
      have vl : vs.length = es.length + 1 := by
        have := tpAll_len te
        rw [evD_len] at this
        exact this
      walk_at "rf"
      refine ⟨by show 1 ≤ sizeLine; decide, fun q4 H4 n4 g4 s4 => ?_⟩
      walk_at "rf"
      refine ⟨by show 1 ≤ sizeLine; decide, fun q5 H5 n5 g5 s5 => ?_⟩
      have s45 := s4.trans s5
      refine r_catV (s45 _ _ g3) g5 (by show _ + 1 ≤ _; omega) fun pa Ha na ga sa => ?_
      have s4a := s45.trans sa
      refine h pa _ (.op true :: (es ++ [.cl])) Ha .mp (by rw [List.length_cons, List.length_append]; show _ + 1 + 1 ≤ 2 * (1 + vszM xs); omega) ((k3.trans (Keep.of s45)).free (L3.same s45).ls na) ((L3.same s45).ne_free na) ga ?_ (L3.same s4a) (k3.trans (Keep.of s4a))
      rw [← List.cons_append, evD_app]
      exact tpAll_app (TpAll.tk (Same.tk s4a) _ _ te) (.cons (tp_cl (sa _ _ (s5 _ _ g4))) .nil)
theorem rec__law_events (F : FunD K "_law_events" "_law_events" (defArgs s__law_events) (defBody s__law_events) (defScope s__law_events) [] [] (glAd "_law_events" K) fd) (m : mg "_law_events" = some (.ref (glAd "_law_events" K))) (nb : Nm w K mg) (c__law_mixed : Cal P w K mg base 2 "_law_mixed" (sp__law_mixed K) []) : ∀ n, Cal P w K mg base (3 + n) "_law_events" (sp__law_events K n) []
  | 0 => calD (k := 2) F m sc__law_events (fun _ _ _ _ _ _ us hl => match us, hl with | [_, _], _ => rfl) (fun _ _ _ _ h => (no__law_events h).elim) (fun _ _ _ _ _ _ _ _ _ h => (no__law_events h).elim)
  | n + 1 => ok__law_events n F m nb c__law_mixed (rec__law_events F m nb c__law_mixed n)
end

/-! ### data that the law compares -/
/-- data of tuples, none of them too long -/
def Short : PyData → Prop
  | .bool _ => True
  | .int _ => True
  | .str x => PyData.canLay0 (.str x) = true
  | .tuple ds => ds.length ≤ 16777000 ∧ shortAll ds
  | _ => False
where shortAll : List PyData → Prop
  | [] => True
  | d :: ds => Short d ∧ shortAll ds
theorem short_mem : ∀ {ds : List PyData} {i : Nat} {e : PyData}, Short.shortAll ds → ds[i]? = some e → Short e
  | [], _, _, _, h => by simp at h
  | d :: ds, 0, e, hs, h => by
    cases (show some d = some e from h)
    exact hs.1
  | d :: ds, i + 1, e, hs, h => short_mem (ds := ds) (i := i) hs.2 (by simpa using h)
theorem short_ints : ∀ k : List Int, Short.shortAll (k.map PyData.int)
  | [] => trivial
  | _ :: k => ⟨trivial, short_ints k⟩
def EvS (e : Ev) : Prop := Short e.dat ∧ e.dat.depth ≤ 3
theorem sh_kd {k : List Int} (h : k.length ≤ 16777000) : Short (kd k) := ⟨by rw [List.length_map]; exact h, short_ints k⟩
theorem ev_depth_by {os : List Int} (h : os.length ≤ 300) : EvS (.lf "bytes" [kd os]) := by
  refine ⟨⟨by show 2 ≤ _; decide, (by show PyData.canLay0 (.str "leaf") = true; decide +kernel), ⟨by show 2 ≤ _; decide, (by show PyData.canLay0 (.str "bytes") = true; decide +kernel), sh_kd (by omega), trivial⟩, trivial⟩, ?_⟩
  have := depth_kd1 os
  simp [Ev.dat, PyData.depth, PyData.depthAll]
  omega
theorem ev_depth_op (m : Bool) : EvS (.op m) := by
  refine ⟨⟨by show 2 ≤ _; decide, (by show PyData.canLay0 (.str "open") = true; decide +kernel), ?_, trivial⟩, by simp [Ev.dat, PyData.depth, PyData.depthAll]⟩
  cases m
  · show PyData.canLay0 (.str "list") = true
    decide +kernel
  · show PyData.canLay0 (.str "map") = true
    decide +kernel
theorem ev_depth_cl : EvS .cl := ⟨⟨by show 1 ≤ _; decide, (by show PyData.canLay0 (.str "close") = true; decide +kernel), trivial⟩, by simp [Ev.dat, PyData.depth, PyData.depthAll]⟩

/-! ### the law's comparison of data -/

/-- v is this data, read so deep at most -/
def Ld : Nat → Hp → V → PyData → Prop
  | 0, _, _, _ => False
  | n + 1, H, v, d => match d with
    | .bool b => v = .bl b
    | .int i => v = .int i
    | .str x => v = .str x ∧ PyData.canLay0 (.str x) = true
    | .tuple ds => ∃ a xs, v = .ref a ∧ H a = some (.tup xs) ∧ xs.length = ds.length ∧ xs.length ≤ 16777000 ∧ ∀ (i : Nat) x e, xs[i]? = some x → ds[i]? = some e → Ld n H x e
    | .list ds => ∃ a xs, v = .ref a ∧ H a = some (.lst xs) ∧ xs.length = ds.length ∧ xs.length ≤ 16777000 ∧ ∀ (i : Nat) x e, xs[i]? = some x → ds[i]? = some e → Ld n H x e
    | _ => False
theorem Ld.same {H H' : Hp} (s : Same H H') : ∀ {n : Nat} {v : V} {d : PyData}, Ld n H v d → Ld n H' v d
  | 0, _, _, h => h.elim
  | n + 1, v, d, h => by
    cases d with
    | bool b => exact h
    | int i => exact h
    | str x => exact h
    | tuple ds =>
      obtain ⟨a, xs, e, h1, h2, h3, h4⟩ := h
      exact ⟨a, xs, e, s _ _ h1, h2, h3, fun i x e a b => Ld.same s (h4 i x e a b)⟩
    | list ds =>
      obtain ⟨a, xs, e, h1, h2, h3, h4⟩ := h
      exact ⟨a, xs, e, s _ _ h1, h2, h3, fun i x e a b => Ld.same s (h4 i x e a b)⟩
    | _ => exact h.elim
theorem depthAll_mem : ∀ {ds : List PyData} {i : Nat} {e : PyData}, ds[i]? = some e → e.depth ≤ PyData.depthAll ds
  | [], _, _, h => by simp at h
  | d :: ds, 0, e, h => by
    cases (show some d = some e from h)
    show _ ≤ max d.depth (PyData.depthAll ds)
    exact Nat.le_max_left _ _
  | d :: ds, i + 1, e, h => by
    have := depthAll_mem (ds := ds) (i := i) (by simpa using h)
    show _ ≤ max d.depth (PyData.depthAll ds)
    exact Nat.le_trans this (Nat.le_max_right _ _)
theorem tp_ld : ∀ {n : Nat} {H : Hp} {v : V} {d : PyData}, Tp H v d → Short d → d.depth < n → Ld n H v d
  | 0, _, _, _, _, _, h => absurd h (Nat.not_lt_zero _)
  | n + 1, H, v, d, h, hs, hd => by
    cases h with
    | non => exact hs.elim
    | bl b => rfl
    | int i => rfl
    | str x => exact ⟨rfl, hs⟩
    | tup ha hx =>
      rename_i a xs ds
      have hs : ds.length ≤ 16777000 ∧ Short.shortAll ds := hs
      have hd : PyData.depthAll ds + 1 < n + 1 := hd
      refine ⟨a, xs, rfl, ha, tpAll_len hx, by rw [tpAll_len hx]; exact hs.1, fun i x e h1 h2 => ?_⟩
      obtain ⟨e', h3, h4⟩ := tpAll_get hx h1
      rw [h2] at h3
      cases h3
      exact tp_ld h4 (short_mem hs.2 h2) (by have := depthAll_mem h2; omega)
def sp__law_same (K : Frg) (n : Nat) : Sp := sp2 fun a b H Q _ => ∃ d, Ld n H a d ∧ Ld n H b d ∧ ∀ H', Same H H' → Q (.bl true) H'
theorem no__law_same {K : Frg} {vs : List V} {H : Hp} {Q : VK} {E : XK} (h : sp__law_same K 0 vs H Q E) : False := by
  obtain ⟨_, _, rfl, d, h, _⟩ := h
  exact h
section
variable {P : Program} {w : World} {K : PySem.W.Frag} {mg : Str → Option Value} {base : Heap} {f : Addr} {fd : FuncData}
theorem ok__law_same (n : Nat) (F : FunD K "_law_same" "_law_same" (defArgs s__law_same) (defBody s__law_same) (defScope s__law_same) [] [] (glAd "_law_same" K) fd) (m : mg "_law_same" = some (.ref (glAd "_law_same" K))) (nb : Nm w K mg) (c__law_same : Cal P w K mg base (1 + n) "_law_same" (sp__law_same K n) []) : Cal P w K mg base (1 + n + 1) "_law_same" (sp__law_same K (n + 1)) [] := by
  refine calD F m sc__law_same (fun _ _ _ _ _ _ us hl => match us, hl with | [_, _], _ => rfl) len2 (fun cdv A outer s H vs Q E hr h => ⟨_, (pss_cons (ps_if (PW.pt (pw_or (pt_val (pe_callB call_isi (by rfl) nb.isinstance (by decide +kernel) (pa_cons (pv 1) (pa_cons (pe_bltn (v := .ty "tuple") (u := .type "tuple") (by rfl) nb.tuple (by decide +kernel) rfl) pa_nil)))) (pw_or1 (pt_val (pe_callB call_isi (by rfl) nb.isinstance (by decide +kernel) (pa_cons (pv 1) (pa_cons (pe_bltn (v := .ty "list") (u := .type "list") (by rfl) nb.list (by decide +kernel) rfl) pa_nil)))))))
    (pss_cons (ps_if (PW.pt (pw_or (pt_cmpR op_ne (pe_callB call_isi (by rfl) nb.isinstance (by decide +kernel) (pa_cons (pv 0) (pa_cons (pe_bltn (v := .ty "tuple") (u := .type "tuple") (by rfl) nb.tuple (by decide +kernel) rfl) pa_nil))) (pe_callB call_isi (by rfl) nb.isinstance (by decide +kernel) (pa_cons (pv 1) (pa_cons (pe_bltn (v := .ty "tuple") (u := .type "tuple") (by rfl) nb.tuple (by decide +kernel) rfl) pa_nil))) (nomark _)) (pw_or1 (pt_cmpR op_ne (pe_callB call_isi (by rfl) nb.isinstance (by decide +kernel) (pa_cons (pv 0) (pa_cons (pe_bltn (v := .ty "list") (u := .type "list") (by rfl) nb.list (by decide +kernel) rfl) pa_nil))) (pe_callB call_isi (by rfl) nb.isinstance (by decide +kernel) (pa_cons (pv 1) (pa_cons (pe_bltn (v := .ty "list") (u := .type "list") (by rfl) nb.list (by decide +kernel) rfl) pa_nil))) (nomark _)))))
    (pss_one (ps_ret pe_bl))
    pss_nil)
    (pss_cons (ps_if (pt_cmpR op_ne (pe_callB call_len_seq (by rfl) nb.len PySem.boot_len (pa_cons (pv 0) pa_nil)) (pe_callB call_len_seq (by rfl) nb.len PySem.boot_len (pa_cons (pv 1) pa_nil)) (nomark _))
    (pss_one (ps_ret pe_bl))
    pss_nil)
    (pss_cons (ps_for PassesOwn.never rfl (pi_range1 rfl nb.range (pa_cons (pe_callB call_len_seq (by rfl) nb.len PySem.boot_len (pa_cons (pv 1) pa_nil)) pa_nil)) (pg_name (i := 2) sc__law_same.nd rfl (Or.inl rfl))
    (pss_one (ps_if (pt_not (pt_val (pe_c c__law_same hr (by omega) rfl (pa_cons (pe_ix ix_seq (pv 0) (pv 2) (fun _ _ => rfl)) (pa_cons (pe_ix ix_seq (pv 1) (pv 2) (fun _ _ => rfl)) pa_nil)))))
    (pss_one (ps_ret pe_bl))
    pss_nil)))
    (pss_one (ps_ret pe_bl)))))
    pss_nil)
    (pss_cons (ps_if (PW.pt (pw_or (pt_val (pe_callB call_isi (by rfl) nb.isinstance (by decide +kernel) (pa_cons (pv 0) (pa_cons (pe_bltn (v := .ty "bool") (u := .type "bool") (by rfl) nb.bool (by decide +kernel) rfl) pa_nil)))) (pw_or1 (pt_val (pe_callB call_isi (by rfl) nb.isinstance (by decide +kernel) (pa_cons (pv 1) (pa_cons (pe_bltn (v := .ty "bool") (u := .type "bool") (by rfl) nb.bool (by decide +kernel) rfl) pa_nil)))))))
    (pss_one (ps_ret (pe_and (pe_callB call_isi (by rfl) nb.isinstance (by decide +kernel) (pa_cons (pv 0) (pa_cons (pe_bltn (v := .ty "bool") (u := .type "bool") (by rfl) nb.bool (by decide +kernel) rfl) pa_nil))) (pe_and (pe_callB call_isi (by rfl) nb.isinstance (by decide +kernel) (pa_cons (pv 1) (pa_cons (pe_bltn (v := .ty "bool") (u := .type "bool") (by rfl) nb.bool (by decide +kernel) rfl) pa_nil))) (pe_one (pe_cmpR (op_eqD hr.units) (pv 0) (pv 1) (nomark _)))))))
    pss_nil)
    (pss_cons (ps_if (pt_val (pe_callB call_isi (by rfl) nb.isinstance (by decide +kernel) (pa_cons (pv 1) (pa_cons (pe_bltn (v := .ty "str") (u := .type "str") (by rfl) nb.str (by decide +kernel) rfl) pa_nil))))
    (pss_one (ps_ret (pe_and (pe_callB call_isi (by rfl) nb.isinstance (by decide +kernel) (pa_cons (pv 0) (pa_cons (pe_bltn (v := .ty "str") (u := .type "str") (by rfl) nb.str (by decide +kernel) rfl) pa_nil))) (pe_one (pe_cmpR (op_eqD hr.units) (pv 0) (pv 1) (nomark _))))))
    pss_nil)
    (pss_one (ps_ret (pe_and (pe_callB call_isi (by rfl) nb.isinstance (by decide +kernel) (pa_cons (pv 0) (pa_cons (pe_bltn (v := .ty "int") (u := .type "int") (by rfl) nb.int (by decide +kernel) rfl) pa_nil))) (pe_one (pe_cmpR (op_eqD hr.units) (pv 0) (pv 1) (nomark _))))))))), ?_⟩)
  obtain ⟨a, b, rfl, d, ha, hb, hQ⟩ := h
  cases d with
  | bool x =>
    have ha : a = .bl x := ha
    have hb : b = .bl x := hb
    subst ha hb
    walk_at "rf"
    refine r_isi (b := false) (.base (.bl x)) (by decide +kernel) ?_
    walk_at "rf"
    refine r_isi (b := false) (.base (.bl x)) (by decide +kernel) ?_
    walk_at "rf"
    refine r_isi (b := true) (.base (.bl x)) (by decide +kernel) ?_
    walk_at "rf"
    refine r_isi (b := true) (.base (.bl x)) (by decide +kernel) ?_
    walk_at "rf"
    refine r_isi (b := true) (.base (.bl x)) (by decide +kernel) ?_
    walk_at "rf"
    refine r_eqDs (d := .bool x) (.bl x) (.bl x) (by cases x <;> rfl) ?_
    exact hQ H (Same.refl H)
  | int x =>
    have ha : a = .int x := ha
    have hb : b = .int x := hb
    subst ha hb
    walk_at "rf"
    refine r_isi (b := false) (.base (.int x)) (by decide +kernel) ?_
    walk_at "rf"
    refine r_isi (b := false) (.base (.int x)) (by decide +kernel) ?_
    walk_at "rf"
    refine r_isi (b := false) (.base (.int x)) (by decide +kernel) ?_
    walk_at "rf"
    refine r_isi (b := false) (.base (.int x)) (by decide +kernel) ?_
    walk_at "rf"
    refine r_isi (b := false) (.base (.int x)) (by decide +kernel) ?_
    walk_at "rf"
    refine r_isi (b := true) (.base (.int x)) (by decide +kernel) ?_
    walk_at "rf"
    refine r_eqDs (d := .int x) (.int x) (.int x) (by rfl) ?_
    exact hQ H (Same.refl H)
  | str x =>
    obtain ⟨ha, hx⟩ : a = .str x ∧ _ := ha
    have hb : b = .str x := hb.1
    subst ha hb
    walk_at "rf"
    refine r_isi (b := false) (.base (.str x)) (by decide +kernel) ?_
    walk_at "rf"
    refine r_isi (b := false) (.base (.str x)) (by decide +kernel) ?_
    walk_at "rf"
    refine r_isi (b := false) (.base (.str x)) (by decide +kernel) ?_
    walk_at "rf"
    refine r_isi (b := false) (.base (.str x)) (by decide +kernel) ?_
    walk_at "rf"
    refine r_isi (b := true) (.base (.str x)) (by decide +kernel) ?_
    walk_at "rf"
    refine r_isi (b := true) (.base (.str x)) (by decide +kernel) ?_
    walk_at "rf"
    refine r_eqDs (d := .str x) (.str x) (.str x) (by unfold SeqAt.shaped; rw [hx]; rfl) ?_
    exact hQ H (Same.refl H)
  | tuple ds =>
    obtain ⟨p, xs, rfl, hp, lp, sp, ep⟩ := ha
    obtain ⟨q, ys, rfl, hq, lq, sq, eq⟩ := hb
    walk_at "rf"
    refine r_isi (b := true) (.base (.tup hq)) (by decide +kernel) ?_
    walk_at "rf"
    refine r_isi (b := true) (.base (.tup hp)) (by decide +kernel) ?_
    walk_at "rf"
    refine r_isi (b := true) (.base (.tup hq)) (by decide +kernel) ?_
    walk_at "rf"
    refine r_neB ?_
    walk_at "rf"
    refine r_no (show (true : Bool) = true from rfl) ?_
    walk_at "rf"
    refine r_isi (b := false) (.base (.tup hp)) (by decide +kernel) ?_
    walk_at "rf"
    refine r_isi (b := false) (.base (.tup hq)) (by decide +kernel) ?_
    walk_at "rf"
    refine r_neB ?_
    walk_at "rf"
    refine r_no (show (false : Bool) = false from rfl) ?_
    walk_at "rf"
    refine ⟨p, _, rfl, .inr (SqT.of hp), ?_⟩
    walk_at "rf"
    refine ⟨q, _, rfl, .inr (SqT.of hq), ?_⟩
    walk_at "rf"
    refine r_no (by omega) ?_
    walk_at "rf"
    refine ⟨q, _, rfl, .inr (SqT.of hq), ?_⟩
    walk_at "rf"
    refine r_turns (by omega) (by omega) (fun i σ H' => Same H H' ∧ ∃ y : Option V, σ = [some (.ref p), some (.ref q), y]) ⟨Same.refl H, none, rfl⟩ ?_ ?_
    · rintro i σ H2 hi ⟨s2, y, rfl⟩
      have hi1 : i < xs.length := by omega
      have hi2 : i < ys.length := by omega
      have hi3 : i < ds.length := by omega
      walk_at "rf"
      refine .inr (.inl (r_ixT (SqT.of (s2 _ _ hp)) (atI_nat (List.getElem?_eq_getElem hi1)) ?_))
      walk_at "rf"
      refine .inr (.inl (r_ixT (SqT.of (s2 _ _ hq)) (atI_nat (List.getElem?_eq_getElem hi2)) ?_))
      walk_at "rf"
      refine ⟨_, _, rfl, ds[i], (ep i _ _ (List.getElem?_eq_getElem hi1) (List.getElem?_eq_getElem hi3)).same s2, (eq i _ _ (List.getElem?_eq_getElem hi2) (List.getElem?_eq_getElem hi3)).same s2, fun H3 s3 => ⟨true, rfl, ?_⟩⟩
      walk_at "rf"
      exact ⟨s2.trans s3, _, rfl⟩
    · rintro σ H2 ⟨s2, y, rfl⟩
      walk_at "rf"
      exact hQ H2 s2
  | list ds =>
    obtain ⟨p, xs, rfl, hp, lp, sp, ep⟩ := ha
    obtain ⟨q, ys, rfl, hq, lq, sq, eq⟩ := hb
    walk_at "rf"
    refine r_isi (b := false) (.base (.lst hq)) (by decide +kernel) ?_
    walk_at "rf"
    refine r_isi (b := true) (.base (.lst hq)) (by decide +kernel) ?_
    walk_at "rf"
    refine r_isi (b := false) (.base (.lst hp)) (by decide +kernel) ?_
    walk_at "rf"
    refine r_isi (b := false) (.base (.lst hq)) (by decide +kernel) ?_
    walk_at "rf"
    refine r_neB ?_
    walk_at "rf"
    refine r_no (show (false : Bool) = false from rfl) ?_
    walk_at "rf"
    refine r_isi (b := true) (.base (.lst hp)) (by decide +kernel) ?_
    walk_at "rf"
    refine r_isi (b := true) (.base (.lst hq)) (by decide +kernel) ?_
    walk_at "rf"
    refine r_neB ?_
    walk_at "rf"
    refine r_no (show (true : Bool) = true from rfl) ?_
    walk_at "rf"
    refine ⟨p, _, rfl, .inl (SqL.of hp), ?_⟩
    walk_at "rf"
    refine ⟨q, _, rfl, .inl (SqL.of hq), ?_⟩
    walk_at "rf"
    refine r_no (by omega) ?_
    walk_at "rf"
    refine ⟨q, _, rfl, .inl (SqL.of hq), ?_⟩
    walk_at "rf"
    refine r_turns (by omega) (by omega) (fun i σ H' => Same H H' ∧ ∃ y : Option V, σ = [some (.ref p), some (.ref q), y]) ⟨Same.refl H, none, rfl⟩ ?_ ?_
    · rintro i σ H2 hi ⟨s2, y, rfl⟩
      have hi1 : i < xs.length := by omega
      have hi2 : i < ys.length := by omega
      have hi3 : i < ds.length := by omega
      walk_at "rf"
      refine .inl (r_ixL (SqL.of (s2 _ _ hp)) (atI_nat (List.getElem?_eq_getElem hi1)) ?_)
      walk_at "rf"
      refine .inl (r_ixL (SqL.of (s2 _ _ hq)) (atI_nat (List.getElem?_eq_getElem hi2)) ?_)
      walk_at "rf"
      refine ⟨_, _, rfl, ds[i], (ep i _ _ (List.getElem?_eq_getElem hi1) (List.getElem?_eq_getElem hi3)).same s2, (eq i _ _ (List.getElem?_eq_getElem hi2) (List.getElem?_eq_getElem hi3)).same s2, fun H3 s3 => ⟨true, rfl, ?_⟩⟩
      walk_at "rf"
      exact ⟨s2.trans s3, _, rfl⟩
    · rintro σ H2 ⟨s2, y, rfl⟩
      walk_at "rf"
      exact hQ H2 s2
  | _ => exact ha.elim
theorem rec__law_same (F : FunD K "_law_same" "_law_same" (defArgs s__law_same) (defBody s__law_same) (defScope s__law_same) [] [] (glAd "_law_same" K) fd) (m : mg "_law_same" = some (.ref (glAd "_law_same" K))) (nb : Nm w K mg) : ∀ n, Cal P w K mg base (1 + n) "_law_same" (sp__law_same K n) []
  | 0 => calD (k := 0) F m sc__law_same (fun _ _ _ _ _ _ us hl => match us, hl with | [_, _], _ => rfl) (fun _ _ _ _ h => (no__law_same h).elim) (fun _ _ _ _ _ _ _ _ _ h => (no__law_same h).elim)
  | n + 1 => ok__law_same n F m nb (rec__law_same F m nb n)
end

/-! ### runs, step by step -/
theorem Runs.at : ∀ {os : List Int} {rs : List (List Ev)} {s t : Sx}, Runs s os rs t → rs.length = os.length ∧ os.foldl sxStep s = t ∧ ∀ (k : Nat) (o : Int), os[k]? = some o → SxOk ((os.take k).foldl sxStep s) o ∧ rs[k]? = some (sxTake ((os.take k).foldl sxStep s) o).2.1
  | [], [], s, t, h => ⟨rfl, (show t = s from h).symm, fun k o e => by simp at e⟩
  | o :: os, r :: rs, s, t, h => by
    obtain ⟨h1, h3, h4⟩ := h
    obtain ⟨i1, i2, i3⟩ := Runs.at h4
    refine ⟨congrArg (· + 1) i1, i2, fun k o' e => ?_⟩
    cases k with
    | zero =>
      cases (show some o = some _ from e)
      exact ⟨h1, by rw [← h3]; rfl⟩
    | succ k => exact i3 k o' (by simpa using e)
  | [], _ :: _, _, _, h => h.elim
  | _ :: _, [], _, _, h => h.elim
theorem step_at {os : List Int} {k : Nat} {o : Int} (s : Sx) (h : os[k]? = some o) : (os.take (k + 1)).foldl sxStep s = sxStep ((os.take k).foldl sxStep s) o := by
  rw [List.take_succ, h, List.foldl_append]
  rfl
def StAt (s : Sx) (os : List Int) (i : Nat) : Sx := (os.take i).foldl sxStep s

/-! ### what the tokens tell is the value's events -/
def evT3 (ts : List Tk3) : List Ev := ts.flatMap fun t => t.2.1.toList
theorem evT3_app (a b : List Tk3) : evT3 (a ++ b) = evT3 a ++ evT3 b := List.flatMap_append
theorem flat_rep (n : Nat) : (List.replicate n ([] : List Ev)).flatten = [] := by
  induction n with
  | zero => rfl
  | succ n ih => rw [List.replicate_succ, List.flatten_cons, ih]; rfl
theorem flat_sprd {late e : List Ev} {n : Nat} (h : n ≠ 0) : (Sprd late n e).flatten = late ++ e := by
  match n, h with
  | 1, _ =>
    show (late ++ e) ++ [] = _
    rw [List.append_nil]
  | n + 2, _ =>
    show late ++ (List.replicate n [] ++ [e]).flatten = _
    rw [List.flatten_append, flat_rep]
    simp
theorem fix_len0 {late : List Ev} {row : List Int} (h : row ≠ []) : (rowFix late row).length ≠ 0 := by
  cases row with
  | nil => exact absurd rfl h
  | cons o r =>
    show (if late ≠ [] ∧ goT o = true then 32 :: o :: r else o :: r).length ≠ 0
    split <;> simp
theorem flat_sched : ∀ (ts : List Tk3) (late : List Ev), (∀ t ∈ ts, Ok3 t) → (sched late ts).2.1.flatten ++ (sched late ts).2.2 = late ++ evT3 ts
  | [], late, _ => by
    show [] ++ late = late ++ []
    simp
  | t :: ts, late, ho => by
    have ih := flat_sched ts (lateN late t) fun x hx => ho x (List.mem_cons_of_mem _ hx)
    have o1 := (ho t (by simp)).1
    show (Sprd late (rowFix late t.1).length (evN t) ++ (sched (lateN late t) ts).2.1).flatten ++ (sched (lateN late t) ts).2.2 = late ++ (t.2.1.toList ++ evT3 ts)
    rw [List.flatten_append, List.append_assoc, ih]
    by_cases c : t.1 = []
    · rw [o1 c, show lateN late t = late from if_pos c, c]
      rfl
    · rw [flat_sprd (fix_len0 c)]
      unfold lateN evN
      rw [if_neg c]
      cases t.2.2 with
      | true => simp
      | false => simp
theorem evT3_val : ∀ (n : Nat) (v : Vl) (ts : List Tk3), v.sf n → Tks v ts → evT3 ts = v.evs := by
  have ls : ∀ (n : Nat), (∀ (v : Vl) (ts : List Tk3), v.sf n → Tks v ts → evT3 ts = v.evs) → ∀ (xs : List Vl) (ts : List Tk3), sfL n xs → TksL xs ts → evT3 ts = evsL xs := by
    intro n ih xs
    induction xs with
    | nil =>
      intro ts _ h
      cases h
      rfl
    | cons x xs IH =>
      intro ts hb h
      cases h with
      | cons h1 h2 =>
        rw [evT3_app, ih x _ hb.1 h1, IH _ hb.2 h2]
        rfl
  intro n
  induction n with
  | zero =>
    intro v ts hb ht
    cases ht with
    | lf w ne rl h1 h2 => rfl
    | ls h h1 h2 h3 => exact (show False from hb).elim
  | succ n ih =>
    intro v ts hb ht
    cases ht with
    | lf w ne rl h1 h2 => rfl
    | @ls xs ts b1 b2 b3 h h1 h2 h3 =>
      have hb : xs.length ≤ 49 ∧ sfL n xs := hb
      rw [evT3_app, evT3_app, evT3_app, ls n ih xs ts hb.2 h]
      show [Ev.op false] ++ evsL xs ++ [Ev.cl] ++ [] = Ev.op false :: (evsL xs ++ [Ev.cl])
      simp
mutual
theorem sf_ok : ∀ (n : Nat) (t : Vl), t.sf n → t.ok n
  | n, .lf k r, h => by
    obtain ⟨os, rfl, rfl, ho⟩ : ∃ os, k = "bytes" ∧ r = [kd os] ∧ Oc os := by cases n <;> exact h
    have q : Lf "bytes" [kd os] := .bytes os ho.1
    cases n <;> exact q
  | 0, .ls xs, h => h.elim
  | n + 1, .ls xs, h => ⟨h.1, sfL_ok n xs h.2⟩
  | n, .mp es, h => (show False by cases n <;> exact h).elim
theorem sfL_ok : ∀ (n : Nat) (xs : List Vl), sfL n xs → vokL n xs
  | _, [], _ => trivial
  | n, x :: xs, h => ⟨sf_ok n x h.1, sfL_ok n xs h.2⟩
end
theorem run_tokens {n : Nat} {t : Vl} {ts : List Tk3} (h : t.sf n) (q : Tks t ts) (ho : ∀ t ∈ ts, Ok3 t) (hn : n ≤ 900) : (Bs.mk [] none).okRun ((sched [] ts).2.1.flatten ++ (sched [] ts).2.2) ∧ (Bs.mk [] none).run ((sched [] ts).2.1.flatten ++ (sched [] ts).2.2) = ⟨[], some t⟩ := by
  rw [flat_sched ts [] ho, List.nil_append, evT3_val n t ts h q]
  exact run_value (sf_ok n t h) hn
theorem okRun_app : ∀ (a b : List Ev) (st : Bs), st.okRun (a ++ b) → st.okRun a ∧ (st.run a).okRun b
  | [], _, _, h => ⟨trivial, h⟩
  | x :: a, b, st, h => by
    obtain ⟨i1, i2⟩ := okRun_app a b (st.step x) h.2.2
    exact ⟨⟨h.1, h.2.1, i1⟩, i2⟩
theorem run_app (a b : List Ev) (st : Bs) : st.run (a ++ b) = (st.run a).run b := List.foldl_append
mutual
theorem sf_short : ∀ (n : Nat) (t : Vl), t.sf n → Short t.dat
  | n, .lf k r, h => by
    obtain ⟨os, rfl, rfl, ho⟩ : ∃ os, k = "bytes" ∧ r = [kd os] ∧ Oc os := by cases n <;> exact h
    exact ⟨by show 2 ≤ _; decide, (by show PyData.canLay0 (.str "bytes") = true; decide +kernel), sh_kd (by have := ho.1; omega), trivial⟩
  | 0, .ls xs, h => h.elim
  | n + 1, .ls xs, h => by
    have h : xs.length ≤ 49 ∧ sfL n xs := h
    have q := sfL_short n xs h.2
    refine ⟨by show 2 ≤ _; decide, lay_list, ⟨?_, q⟩, trivial⟩
    rw [datL_map, List.length_map]
    omega
  | n, .mp es, h => (show False by cases n <;> exact h).elim
theorem sfL_short : ∀ (n : Nat) (xs : List Vl), sfL n xs → Short.shortAll (datL xs)
  | _, [], _ => trivial
  | n, x :: xs, h => ⟨sf_short n x h.1, sfL_short n xs h.2⟩
end
theorem sf_ld {n m : Nat} {H : Hp} {v : V} {t : Vl} (h : t.sf n) (hm : 3 * n + 2 < m) (tp : Tp H v t.dat) : Ld m H v t.dat := tp_ld tp (sf_short n t h) (Nat.lt_of_le_of_lt (vl_depth n t (sf_ok n t h)) hm)
theorem ld_ints {H : Hp} {a : Addr} {xs : List Int} {n : Nat} (h : H a = some (.lst (xs.map V.int))) (hl : xs.length ≤ 16777000) : Ld (n + 2) H (.ref a) (.list (xs.map PyData.int)) := by
  refine ⟨a, _, rfl, h, by rw [List.length_map, List.length_map], by rw [List.length_map]; exact hl, fun i x e h1 h2 => ?_⟩
  rw [List.getElem?_map] at h1 h2
  obtain ⟨y, hy, rfl⟩ := Option.map_eq_some_iff.mp h1
  rw [hy] at h2
  cases h2
  rfl

/-! ### the text is read -/
theorem ch_of {o : List Addr} {H H' : Hp} (w : Ow o H H') (t : Tk H H') : Ch o H H' := fun x u h n => by
  by_cases m : x ∈ o
  · obtain ⟨xs, rfl⟩ := n m
    exact t _ _ h
  · exact w x u m h
theorem ow_of {o : List Addr} {H H' : Hp} (c : Ch o H H') : Ow o H H' := fun x u n h => c x u h fun z => absurd z n




def sp__take_all (K : Frg) : Sp := sp2 fun p e H Q _ => ∃ b fl st cs q es, p = .ref b ∧ e = .ref q ∧ BAt K H b fl st cs ∧ EvL H q es ∧ st.okRun es ∧ q ∉ own b fl cs ∧ ∀ cs' H', BAt K H' b fl (st.run es) cs' → (∀ x ∈ own b fl cs', x ∈ own b fl cs ∨ H x = none) → Ch (own b fl cs) H H' → Q .non H'
/-- the text is over, and this is what its end tells -/
def EndOk (s : Sx) (lt : List Ev) : Prop := ((aNo s.t = true ∧ s.ov = true) ∨ (aEnds s.t = true ∧ s.lv = [])) ∧ sxLate s = lt
def sp_value_of_text (K : Frg) : Sp := sp2 fun p o H Q _ => ∃ (A : SxA) (a : Addr) (os : List Int) (rs : List (List Ev)) (s' : Sx) (lt : List Ev) (t : Vl), p = .ref A.a ∧ o = .ref a ∧ (H a = some (.lst (os.map V.int)) ∨ H a = some (.tup (os.map V.int))) ∧ a ∉ A.own ∧ SxAt K H A sx0 ∧ Runs sx0 os rs s' ∧ EndOk s' lt ∧
  (Bs.mk [] none).okRun (rs.flatten ++ lt) ∧ (Bs.mk [] none).run (rs.flatten ++ lt) = ⟨[], some t⟩ ∧ ∀ v H', Tp H' v t.dat → Ch A.own H H' → Q v H'
def ReadSp (H : Hp) (o : V) (Q : VK) : Prop := ∃ (a : Addr) (os : List Int) (rs : List (List Ev)) (s' : Sx) (lt : List Ev) (t : Vl), o = .ref a ∧ (H a = some (.lst (os.map V.int)) ∨ H a = some (.tup (os.map V.int))) ∧ Runs sx0 os rs s' ∧ EndOk s' lt ∧
  (Bs.mk [] none).okRun (rs.flatten ++ lt) ∧ (Bs.mk [] none).run (rs.flatten ++ lt) = ⟨[], some t⟩ ∧ ∀ v H', Tp H' v t.dat → Same H H' → Q v H'
def sp_read_sexp (K : Frg) : Sp := sp1 fun o H Q _ => ReadSp H o Q
def sp__law_read (K : Frg) : Sp := sp1 fun o H Q _ => ReadSp H o Q
section
variable {P : Program} {w : World} {K : PySem.W.Frag} {mg : Str → Option Value} {base : Heap} {f : Addr} {fd : FuncData}
theorem ok__take_all (F : FunD K "_take_all" "_take_all" (defArgs s__take_all) (defBody s__take_all) (defScope s__take_all) [] [] (glAd "_take_all" K) fd) (m : mg "_take_all" = some (.ref (glAd "_take_all" K))) (nb : Nm w K mg) (m_Builder_take : Met P w K mg base 3 (C_Builder K) "take" (sp_Builder_take K) []) : Cal P w K mg base 4 "_take_all" (sp__take_all K) [] := by
  refine calD F m sc__take_all (fun _ _ _ _ _ _ us hl => match us, hl with | [_, _], _ => rfl) len2 (fun cdv A outer s H vs Q E hr h => ⟨_, (pss_one (ps_for PassesOwn.never rfl (pi_list (pv 1)) (pg_name (i := 2) sc__take_all.nd rfl (Or.inl rfl))
    (pss_one (ps_expr (pe_mt m_Builder_take hr (by decide) (pv 0) (pa_cons (pv 2) pa_nil)))))), ?_⟩)
  obtain ⟨_, _, rfl, b, fl, st, cs, q, es, rfl, rfl, B, ⟨vs, hq, tp⟩, ok, nq, h⟩ := h
  walk_at "rd"
  refine ⟨q, rfl, ⟨vs, SqL.of hq⟩, ?_⟩
  have vl : vs.length = es.length := evl_len tp
  refine r_eachL (xs := vs) (fun i σ H' => ∃ (cs' : List Cf) (y : Option V), BAt K H' b fl (st.run (es.take i)) cs' ∧ (∀ x ∈ own b fl cs', x ∈ own b fl cs ∨ H x = none) ∧ Ch (own b fl cs) H H' ∧ σ = [some (.ref b), some (.ref q), y]) ⟨cs, _, B, fun x hx => .inl hx, Ch.refl, rfl⟩ (fun i σ H' hh => ?_) ?_ ?_
  · obtain ⟨_, _, _, _, c, _⟩ := hh
    exact SqL.of (c.get nq hq)
  · rintro i x σ H' hx ⟨cs', y, B', fr, c, rfl⟩
    obtain ⟨d, hd1, hd2⟩ := tpAll_get tp hx
    unfold evD at hd1
    rw [List.getElem?_map] at hd1
    obtain ⟨ev, hev, rfl⟩ := Option.map_eq_some_iff.mp hd1
    obtain ⟨val, vn⟩ := okRun_at es _ i _ ok hev
    obtain ⟨⟨dx, bv, hb, hbv⟩, _, _, _, _⟩ := id B'
    walk_at "rd"
    refine r_mget hb no_Builder_take ?_
    walk_at "rd"
    refine ⟨_, _, rfl, b, fl, _, cs', ev, rfl, B', Tp.tk c.tk _ _ hd2, val, vn, fun cs2 H2 B2 fr2 w2 t2 => ?_⟩
    walk_at "rd"
    refine ⟨cs2, _, by rw [run_take hev]; exact B2, fun x hx => ?_, (ch_of w2 t2).ch fr c, rfl⟩
    rcases fr2 x hx with z | z
    · exact fr x z
    · exact c.fresh z
  · rintro σ H' ⟨cs', y, B', fr, c, rfl⟩
    rw [vl, List.take_length] at B'
    walk_at "rd"
    exact h cs' H' B' fr c
theorem ok_value_of_text (F : FunD K "value_of_text" "value_of_text" (defArgs s_value_of_text) (defBody s_value_of_text) (defScope s_value_of_text) [] [] (glAd "value_of_text" K) fd) (m : mg "value_of_text" = some (.ref (glAd "value_of_text" K))) (nb : Nm w K mg) (m_SexpScanner_step : Met P w K mg base 7 (C_SexpScanner K) "step" (sp_SexpScanner_step K) []) (m_SexpScanner_end : Met P w K mg base 4 (C_SexpScanner K) "end" (sp_SexpScanner_end K) []) (k_Builder : Mak P w K mg base 1 "Builder" (C_Builder K) (sp_Builder___init__ K) []) (c__take_all : Cal P w K mg base 4 "_take_all" (sp__take_all K) []) : Cal P w K mg base 8 "value_of_text" (sp_value_of_text K) [] := by
  refine calD F m sc_value_of_text (fun _ _ _ _ _ _ us hl => match us, hl with | [_, _], _ => rfl) len2 (fun cdv A outer s H vs Q E hr h => ⟨_, (pss_cons (ps_set (i := 2) sc_value_of_text.nd rfl (Or.inl rfl) (pe_mk0 k_Builder hr (by decide) rfl))
    (pss_cons (ps_for PassesOwn.never rfl (pi_or (pi_list (pv 1)) (pi_tup (pv 1))) (pg_name (i := 3) sc_value_of_text.nd rfl (Or.inl rfl))
    (pss_one (ps_expr (pe_c c__take_all hr (by decide) rfl (pa_cons (pv 2) (pa_cons (pe_mt m_SexpScanner_step hr (by decide) (pv 0) (pa_cons (pv 3) pa_nil)) pa_nil))))))
    (pss_cons (ps_expr (pe_c c__take_all hr (by decide) rfl (pa_cons (pv 2) (pa_cons (pe_mt0 m_SexpScanner_end hr (by decide) (pv 0)) pa_nil))))
    (pss_one (ps_ret (pe_fld (pv 2) rfl)))))), ?_⟩)
  obtain ⟨_, _, rfl, A, a, os, rs, s', lt, t, rfl, rfl, ha, na, hA, R, ⟨hw, hlt⟩, ok0, run, h⟩ := h
  obtain ⟨ok, okB⟩ := okRun_app _ _ _ ok0
  obtain ⟨R1, R2, R3⟩ := R.at
  walk_at "rf"
  refine d_builder fun b fl H1 nb_ nfl B s1 => ?_
  walk_at "rf"
  have fb0 : ∀ x ∈ own b fl [], x ∈ A.own ∨ H x = none := fun x hx => by
    have hx : x = b ∨ x = fl := by simpa [own, ownC] using hx
    rcases hx with e | e <;> rw [e]
    · exact .inr nb_
    · exact .inr nfl
  have dj0 : ∀ x ∈ A.own, x ∉ own b fl [] := fun x hx hz => by
    obtain ⟨u, hu⟩ := hA.some x hx
    have hx : x = b ∨ x = fl := by simpa [own, ownC] using hz
    rcases hx with e | e
    · rw [e, nb_] at hu
      cases hu
    · rw [e, nfl] at hu
      cases hu
  rcases ha with ha | ha
  · refine .inl ?_
    walk_at "rf"
    refine ⟨a, rfl, ⟨_, SqL.of (s1 _ _ ha)⟩, ?_⟩
    refine r_eachL (xs := os.map V.int) (fun i σ H' => ∃ (A' : SxA) (cs : List Cf) (y : Option V), A'.a = A.a ∧ SxAt K H' A' (StAt sx0 os i) ∧ BAt K H' b fl ((Bs.mk [] none).run (rs.take i).flatten) cs ∧ (∀ x ∈ A'.own, x ∉ own b fl cs) ∧ (∀ x ∈ A'.own, x ∈ A.own ∨ H x = none) ∧ (∀ x ∈ own b fl cs, x ∈ A.own ∨ H x = none) ∧ Ch A.own H H' ∧ σ = [some (.ref A.a), some (.ref a), some (.ref b), y]) ⟨A, [], _, rfl, hA.get (Ch.same (o := []) s1 Ch.refl) (by simp), B, dj0, fun x hx => .inl hx, fb0, Ch.same s1 Ch.refl, rfl⟩ (fun i σ H' hh => ?_) ?_ ?_
    · obtain ⟨_, _, _, _, _, _, _, _, _, c, _⟩ := hh
      exact SqL.of (c.get na ha)
    · rintro i x σ H2 hx ⟨A', cs, y, ea, hA2, B2, dj, fa, fb, c2, rfl⟩
      obtain ⟨o, ho, rfl, _⟩ := ints_get hx
      obtain ⟨okk, row⟩ := R3 i o ho
      obtain ⟨⟨dA, hA1⟩, _, _, _⟩ := id hA2
      rw [ea] at hA1
      walk_at "rf"
      refine ⟨_, _, rfl, A', _, o, congrArg V.ref ea.symm, rfl, hA2, okk, fun A3 x H3 ea3 fr3 hA3 hE nx nxo c3 => ?_⟩
      have B3 := B2.away (ow_of c3) c3.tk (fun x hx z => dj x z hx)
      have live2 := B2.live
      have nq : x ∉ own b fl cs := fun z => by
        obtain ⟨u, hu⟩ := live2 x z
        rw [nx] at hu
        cases hu
      have ef : (rs.take (i + 1)).flatten = (rs.take i).flatten ++ (sxTake ((os.take i).foldl sxStep sx0) o).2.1 := by
        rw [List.take_succ, row, List.flatten_append]
        simp
      have okw : ((Bs.mk [] none).run (rs.take i).flatten).okRun (sxTake ((os.take i).foldl sxStep sx0) o).2.1 := by
        have e : rs = rs.take (i + 1) ++ rs.drop (i + 1) := (List.take_append_drop _ _).symm
        have e2 : rs.flatten = (rs.take i).flatten ++ ((sxTake ((os.take i).foldl sxStep sx0) o).2.1 ++ (rs.drop (i + 1)).flatten) := by
          have q : rs.flatten = (rs.take (i + 1) ++ rs.drop (i + 1)).flatten := congrArg List.flatten e
          rw [List.flatten_append, ef, List.append_assoc] at q
          exact q
        rw [e2] at ok
        exact (okRun_app _ _ _ (okRun_app _ _ _ ok).2).1
      walk_at "rf"
      refine ⟨_, _, rfl, b, fl, _, cs, x, _, rfl, rfl, B3, hE, okw, nq, fun cs4 H4 B4 fr4 c4 => ?_⟩
      walk_at "rf"
      have c23 : Ch A.own H H3 := c3.ch fa c2
      have d3 : ∀ x ∈ A3.own, x ∉ own b fl cs := fun z hz hz2 => by
        rcases fr3 z hz with q | q
        · exact dj z q hz2
        · obtain ⟨u, hu⟩ := live2 z hz2
          rw [q] at hu
          cases hu
      refine ⟨A3, cs4, _, ea3.trans ea, ?_, ?_, fun z hz hz2 => ?_, fun z hz => ?_, fun z hz => ?_, c4.ch fb c23, rfl⟩
      · rw [StAt, step_at sx0 ho]
        exact hA3.get c4 d3
      · rw [ef, run_app]
        exact B4
      · rcases fr4 z hz2 with q | q
        · exact d3 z hz q
        · obtain ⟨u, hu⟩ := hA3.some z hz
          rw [q] at hu
          cases hu
      · rcases fr3 z hz with q | q
        · exact fa z q
        · exact c2.fresh q
      · rcases fr4 z hz with q | q
        · exact fb z q
        · exact c23.fresh q
    · rintro σ H2 ⟨A', cs, y, ea, hA2, B2, dj, fa, fb, c2, rfl⟩
      rw [List.length_map] at hA2 B2
      rw [← R1, List.take_length] at B2
      have eS : StAt sx0 os os.length = s' := by
        unfold StAt
        rw [List.take_length, R2]
      rw [eS] at hA2
      obtain ⟨⟨dA, hA1⟩, _, _, _⟩ := id hA2
      rw [ea] at hA1
      walk_at "rf"
      refine ⟨_, rfl, A', s', congrArg V.ref ea.symm, hA2, hw, fun q H3 nq eq xo cb => ?_⟩
      rw [hlt] at eq
      have B3 := B2.away (ow_of cb) cb.tk (fun x hx z => dj x z hx)
      have live2 := B2.live
      walk_at "rf"
      refine ⟨_, _, rfl, b, fl, _, cs, q, lt, rfl, rfl, B3, eq, okB, fun z => ?_, fun cs4 H4 B4 fr4 c4 => ?_⟩
      · obtain ⟨u, hu⟩ := live2 q z
        rw [nq] at hu
        cases hu
      rw [← run_app, run] at B4
      obtain ⟨⟨dx, bv, hb, hbv⟩, _, _, _, _⟩ := id B4
      walk_at "rf"
      exact h _ H4 hbv (c4.ch fb (cb.ch fa c2))
  · refine .inr ?_
    walk_at "rf"
    refine ⟨a, rfl, ⟨_, SqT.of (s1 _ _ ha)⟩, ?_⟩
    refine r_eachT (xs := os.map V.int) (fun i σ H' => ∃ (A' : SxA) (cs : List Cf) (y : Option V), A'.a = A.a ∧ SxAt K H' A' (StAt sx0 os i) ∧ BAt K H' b fl ((Bs.mk [] none).run (rs.take i).flatten) cs ∧ (∀ x ∈ A'.own, x ∉ own b fl cs) ∧ (∀ x ∈ A'.own, x ∈ A.own ∨ H x = none) ∧ (∀ x ∈ own b fl cs, x ∈ A.own ∨ H x = none) ∧ Ch A.own H H' ∧ σ = [some (.ref A.a), some (.ref a), some (.ref b), y]) ⟨A, [], _, rfl, hA.get (Ch.same (o := []) s1 Ch.refl) (by simp), B, dj0, fun x hx => .inl hx, fb0, Ch.same s1 Ch.refl, rfl⟩ (fun i σ H' hh => ?_) ?_ ?_
    · obtain ⟨_, _, _, _, _, _, _, _, _, c, _⟩ := hh
      exact SqT.of (c.get na ha)
    · rintro i x σ H2 hx ⟨A', cs, y, ea, hA2, B2, dj, fa, fb, c2, rfl⟩
      obtain ⟨o, ho, rfl, _⟩ := ints_get hx
      obtain ⟨okk, row⟩ := R3 i o ho
      obtain ⟨⟨dA, hA1⟩, _, _, _⟩ := id hA2
      rw [ea] at hA1
      walk_at "rf"
      refine ⟨_, _, rfl, A', _, o, congrArg V.ref ea.symm, rfl, hA2, okk, fun A3 x H3 ea3 fr3 hA3 hE nx nxo c3 => ?_⟩
      have B3 := B2.away (ow_of c3) c3.tk (fun x hx z => dj x z hx)
      have live2 := B2.live
      have nq : x ∉ own b fl cs := fun z => by
        obtain ⟨u, hu⟩ := live2 x z
        rw [nx] at hu
        cases hu
      have ef : (rs.take (i + 1)).flatten = (rs.take i).flatten ++ (sxTake ((os.take i).foldl sxStep sx0) o).2.1 := by
        rw [List.take_succ, row, List.flatten_append]
        simp
      have okw : ((Bs.mk [] none).run (rs.take i).flatten).okRun (sxTake ((os.take i).foldl sxStep sx0) o).2.1 := by
        have e : rs = rs.take (i + 1) ++ rs.drop (i + 1) := (List.take_append_drop _ _).symm
        have e2 : rs.flatten = (rs.take i).flatten ++ ((sxTake ((os.take i).foldl sxStep sx0) o).2.1 ++ (rs.drop (i + 1)).flatten) := by
          have q : rs.flatten = (rs.take (i + 1) ++ rs.drop (i + 1)).flatten := congrArg List.flatten e
          rw [List.flatten_append, ef, List.append_assoc] at q
          exact q
        rw [e2] at ok
        exact (okRun_app _ _ _ (okRun_app _ _ _ ok).2).1
      walk_at "rf"
      refine ⟨_, _, rfl, b, fl, _, cs, x, _, rfl, rfl, B3, hE, okw, nq, fun cs4 H4 B4 fr4 c4 => ?_⟩
      walk_at "rf"
      have c23 : Ch A.own H H3 := c3.ch fa c2
      have d3 : ∀ x ∈ A3.own, x ∉ own b fl cs := fun z hz hz2 => by
        rcases fr3 z hz with q | q
        · exact dj z q hz2
        · obtain ⟨u, hu⟩ := live2 z hz2
          rw [q] at hu
          cases hu
      refine ⟨A3, cs4, _, ea3.trans ea, ?_, ?_, fun z hz hz2 => ?_, fun z hz => ?_, fun z hz => ?_, c4.ch fb c23, rfl⟩
      · rw [StAt, step_at sx0 ho]
        exact hA3.get c4 d3
      · rw [ef, run_app]
        exact B4
      · rcases fr4 z hz2 with q | q
        · exact d3 z hz q
        · obtain ⟨u, hu⟩ := hA3.some z hz
          rw [q] at hu
          cases hu
      · rcases fr3 z hz with q | q
        · exact fa z q
        · exact c2.fresh q
      · rcases fr4 z hz with q | q
        · exact fb z q
        · exact c23.fresh q
    · rintro σ H2 ⟨A', cs, y, ea, hA2, B2, dj, fa, fb, c2, rfl⟩
      rw [List.length_map] at hA2 B2
      rw [← R1, List.take_length] at B2
      have eS : StAt sx0 os os.length = s' := by
        unfold StAt
        rw [List.take_length, R2]
      rw [eS] at hA2
      obtain ⟨⟨dA, hA1⟩, _, _, _⟩ := id hA2
      rw [ea] at hA1
      walk_at "rf"
      refine ⟨_, rfl, A', s', congrArg V.ref ea.symm, hA2, hw, fun q H3 nq eq xo cb => ?_⟩
      rw [hlt] at eq
      have B3 := B2.away (ow_of cb) cb.tk (fun x hx z => dj x z hx)
      have live2 := B2.live
      walk_at "rf"
      refine ⟨_, _, rfl, b, fl, _, cs, q, lt, rfl, rfl, B3, eq, okB, fun z => ?_, fun cs4 H4 B4 fr4 c4 => ?_⟩
      · obtain ⟨u, hu⟩ := live2 q z
        rw [nq] at hu
        cases hu
      rw [← run_app, run] at B4
      obtain ⟨⟨dx, bv, hb, hbv⟩, _, _, _, _⟩ := id B4
      walk_at "rf"
      exact h _ H4 hbv (c4.ch fb (cb.ch fa c2))
theorem ok_read_sexp (F : FunD K "read_sexp" "read_sexp" (defArgs s_read_sexp) (defBody s_read_sexp) (defScope s_read_sexp) [] [] (glAd "read_sexp" K) fd) (m : mg "read_sexp" = some (.ref (glAd "read_sexp" K))) (nb : Nm w K mg) (k_SexpScanner : Mak P w K mg base 3 "SexpScanner" (C_SexpScanner K) (sp_SexpScanner___init__ K) []) (c_value_of_text : Cal P w K mg base 8 "value_of_text" (sp_value_of_text K) []) : Cal P w K mg base 9 "read_sexp" (sp_read_sexp K) [] := by
  refine calD F m sc_read_sexp (fun _ _ _ _ _ _ us hl => match us, hl with | [_], _ => rfl) len1 (fun cdv A outer s H vs Q E hr h => ⟨_, (pss_one (ps_ret (pe_c c_value_of_text hr (by decide) rfl (pa_cons (pe_mk0 k_SexpScanner hr (by decide) rfl) (pa_cons (pv 0) pa_nil))))), ?_⟩)
  obtain ⟨_, rfl, a, os, rs, s', lt, t, rfl, ha, R, hw, ok, run, h⟩ := h
  walk_at "rf"
  refine d_sexp fun A H1 nA hA s1 => ?_
  walk_at "rf"
  refine ⟨_, _, rfl, A, a, os, rs, s', lt, t, rfl, rfl, ha.imp (s1 _ _) (s1 _ _), fun z => ?_, hA, R, hw, ok, run, fun v H' tp c => h v H' tp fun x u hx => ?_⟩
  · have := nA a z
    rcases ha with q | q
    · rw [q] at this
      cases this
    · rw [q] at this
      cases this
  · exact c.get (fun z => by rw [nA x z] at hx; cases hx) (s1 _ _ hx)
theorem ok__law_read (F : FunD K "_law_read" "_law_read" (defArgs s__law_read) (defBody s__law_read) (defScope s__law_read) [] [] (glAd "_law_read" K) fd) (m : mg "_law_read" = some (.ref (glAd "_law_read" K))) (nb : Nm w K mg) (c_read_sexp : Cal P w K mg base 9 "read_sexp" (sp_read_sexp K) []) : Cal P w K mg base 10 "_law_read" (sp__law_read K) [] := by
  refine calD F m sc__law_read (fun _ _ _ _ _ _ us hl => match us, hl with | [_], _ => rfl) len1 (fun cdv A outer s H vs Q E hr h => ⟨_, (pss_one (ps_tryN0 (fun _ _ h => h) (pss_one (ps_ret (pe_c c_read_sexp hr (by decide) rfl (pa_cons (pv 0) pa_nil)))))), ?_⟩)
  obtain ⟨_, rfl, h⟩ := h
  walk_at "rf"
  exact ⟨_, rfl, h⟩
end

/-! ### an event taken, or what is lacking told -/

def sp__law_taken (K : Frg) : Sp := sp2 fun p v H Q _ => ∃ (a b l : Addr) (s : Sl) (e : Ev), p = .ref a ∧ SlA K H a b l s ∧ Tp H v e.dat ∧ (lackE e = true → ∀ T H', H' T = some (.tup [.str "lacks", .int (s.m : Nat)]) → Ch [] H H' → Q (.ref T) H') ∧ (lackE e = false → SlOk s e ∧ ∀ (q : Addr) (H' : Hp), H q = none → H' q = some (.lst ((slO s e).map V.int)) → SlA K H' a b l (slS s e) → Ch [a, b, l] H H' → Q (.ref q) H')
section
variable {P : Program} {w : World} {K : PySem.W.Frag} {mg : Str → Option Value} {base : Heap} {f : Addr} {fd : FuncData}
theorem ok__law_taken (F : FunD K "_law_taken" "_law_taken" (defArgs s__law_taken) (defBody s__law_taken) (defScope s__law_taken) [] [] (glAd "_law_taken" K) fd) (m : mg "_law_taken" = some (.ref (glAd "_law_taken" K))) (nb : Nm w K mg) (z_AlikeError : Raz P w K mg base "AlikeError" (C_AlikeError K) "what") (m_SexpLoose_take : MetX P w K mg base 5 (C_SexpLoose K) "take" (sp_SexpLoose_take K)) : Cal P w K mg base 6 "_law_taken" (sp__law_taken K) [] := by
  refine calD F m sc__law_taken (fun _ _ _ _ _ _ us hl => match us, hl with | [_, _], _ => rfl) len2 (fun cdv A outer s H vs Q E hr h => ⟨_, (pss_one (ps_try_asE (i := 2) (Wout := fun _ _ _ _ => False) rfl rfl sc__law_taken.nd rfl rfl ⟨rfl, by decide, .inl nb.g_AlikeError⟩ takes0 (fun W pn xe tk pw => ⟨_, (pss_one (ps_ret (pe_mtX m_SexpLoose_take hr (by decide) tk (pv 0) (pa_cons (pv 1) pa_nil)))), rfl⟩)
    (fun a oe cls d pn hz hf => ⟨_, (pss_cons (ps_if (PW.pt (pw_or (pt_val (pe_callB (call_isX hz hf) (by rfl) nb.isinstance (by decide +kernel) (pa_cons (pv 2) (pa_cons (pe_gc (v := .ref (C_Unreadable K)) rfl ⟨_, nb.g_Unreadable, rfl⟩) pa_nil)))) (pw_or (pt_val (pe_callB (call_isX hz hf) (by rfl) nb.isinstance (by decide +kernel) (pa_cons (pv 2) (pa_cons (pe_gc (v := .ref (C_Doubled K)) rfl ⟨_, nb.g_Doubled, rfl⟩) pa_nil)))) (pw_or1 (pt_not (pt_val (pe_callB (call_isX hz hf) (by rfl) nb.isinstance (by decide +kernel) (pa_cons (pv 2) (pa_cons (pe_gc (v := .ref (C_Unwritable K)) rfl ⟨_, nb.g_Unwritable, rfl⟩) pa_nil)))))))))
    (pss_one (ps_ret (pe_lstE (pa_cons pe_str pa_nil))))
    pss_nil)
    (pss_one (ps_ret (pe_tupE (pa_cons pe_str (pa_cons (pe_xf nb.x_Unwritable.xf nb.x_Unwritable.no hz hf (pv 2)) pa_nil)))))), rfl⟩))), ?_⟩)
  obtain ⟨_, v, rfl, a, b, l, s, e, rfl, hS, he, hl, hq⟩ := h
  -- 0:writer 1:event 2:e
  obtain ⟨dx, hA, hB, hL, hN⟩ := id hS
  walk_at "rf"
  refine ⟨_, _, rfl, a, b, l, s, e, rfl, hS, he, fun z d H1 hd c => ⟨true, nb.e_Unwritable_AlikeError, fun x hx => ?_, fun q => Bool.noConfusion q⟩, fun z => ⟨(hq z).1, fun q H' n g S c => ?_⟩⟩
  · dsimp only
    intro _
    walk_at "rf"
    refine ⟨_, _, d, _, false, rfl, rfl, rfl, hd, nb.y_Unwritable, nb.i_Unwritable_Unreadable, ?_⟩
    walk_at "rf"
    refine ⟨_, _, d, _, false, rfl, rfl, rfl, hd, nb.y_Unwritable, nb.i_Unwritable_Doubled, ?_⟩
    walk_at "rf"
    refine ⟨_, _, d, _, true, rfl, rfl, rfl, hd, nb.y_Unwritable, nb.i_Unwritable_Unwritable, ?_⟩
    walk_at "rf"
    refine ⟨rfl, d, _, _, rfl, hd, lk_hit _ _ _, ?_⟩
    walk_at "rf"
    refine ⟨by show 2 ≤ sizeLine; decide, fun T H2 nT gT s2 => ?_⟩
    exact hl z T H2 gT (Ch.same s2 c)
  · walk_at "rf"
    exact (hq z).2 q H' n g S c
end

/-! ### rows of octets, and where the writers stand -/
/-- rows of numbers, none of them at M -/
def RwAt (M : List Addr) (H : Hp) (rs : List Addr) (xss : List (List Int)) : Prop := rs.length = xss.length ∧ ∀ (j : Nat) (r : Addr) (x : List Int), rs[j]? = some r → xss[j]? = some x → r ∉ M ∧ H r = some (.lst (x.map V.int))
theorem RwAt.ch {M o : List Addr} {H H' : Hp} {rs : List Addr} {xss : List (List Int)} (h : RwAt M H rs xss) (c : Ch o H H') (m : ∀ x ∈ o, x ∈ M ∨ H x = none) : RwAt M H' rs xss := ⟨h.1, fun j r x a b => by
  obtain ⟨h1, h2⟩ := h.2 j r x a b
  refine ⟨h1, c.get (fun z => ?_) h2⟩
  rcases m r z with q | q
  · exact h1 q
  · rw [h2] at q
    cases q⟩
theorem RwAt.snoc {M : List Addr} {H : Hp} {rs : List Addr} {xss : List (List Int)} {r : Addr} {x : List Int} (h : RwAt M H rs xss) (n : r ∉ M) (g : H r = some (.lst (x.map V.int))) : RwAt M H (rs ++ [r]) (xss ++ [x]) := by
  refine ⟨by rw [List.length_append, List.length_append, h.1]; rfl, fun j r' x' a b => ?_⟩
  by_cases c : j < rs.length
  · rw [List.getElem?_append_left c] at a
    rw [List.getElem?_append_left (by rw [← h.1]; exact c)] at b
    exact h.2 j r' x' a b
  · rw [List.getElem?_append_right (by omega)] at a
    rw [List.getElem?_append_right (by rw [← h.1]; omega), ← h.1] at b
    have e : j - rs.length = 0 := by
      have := (List.getElem?_eq_some_iff.mp a).1
      have : ([r] : List Addr).length = 1 := rfl
      omega
    rw [e] at a b
    cases a
    cases b
    exact ⟨n, g⟩
theorem ld_rws {M : List Addr} {H : Hp} {q : Addr} {rs : List Addr} {xss : List (List Int)} {n : Nat} (hq : H q = some (.lst (rs.map V.ref))) (h : RwAt M H rs xss) (hl : rs.length ≤ 16000000) (hx : ∀ x ∈ xss, x.length ≤ 16000000) : Ld (n + 3) H (.ref q) (.list (xss.map fun x => .list (x.map PyData.int))) := by
  refine ⟨q, _, rfl, hq, by rw [List.length_map, List.length_map, h.1], by rw [List.length_map]; omega, fun i v d h1 h2 => ?_⟩
  rw [List.getElem?_map] at h1 h2
  obtain ⟨r, hr, rfl⟩ := Option.map_eq_some_iff.mp h1
  obtain ⟨x, hx2, rfl⟩ := Option.map_eq_some_iff.mp h2
  exact ld_ints (h.2 i r x hr hx2).2 (by have := hx x (List.mem_of_getElem? hx2); omega)
theorem SlA.ch {K : Frg} {H H' : Hp} {a b l : Addr} {s : Sl} {o : List Addr} (h : SlA K H a b l s) (c : Ch o H H') (na : a ∉ o) (nb : b ∉ o) (nl : l ∉ o) : SlA K H' a b l s := by
  obtain ⟨dx, h1, h2, h3, h4⟩ := h
  exact ⟨dx, c.get na h1, h2.get c nb, c.get nl h3, h4⟩
theorem SlA.same {K : Frg} {H H' : Hp} {a b l : Addr} {s : Sl} (h : SlA K H a b l s) (c : Same H H') : SlA K H' a b l s := h.ch (Ch.same (o := []) c Ch.refl) (by simp) (by simp) (by simp)
/-- what stands somewhere is not free -/
theorem SlA.live {K : Frg} {H : Hp} {a b l : Addr} {s : Sl} (h : SlA K H a b l s) : ∀ x ∈ [a, b, l], ∃ u, H x = some u := fun x hx => by
  obtain ⟨dx, h1, ⟨dy, h2⟩, h3, _⟩ := h
  simp only [List.mem_cons, List.not_mem_nil, or_false] at hx
  rcases hx with e | e | e <;> rw [e]
  · exact ⟨_, h1⟩
  · exact ⟨_, h2⟩
  · exact ⟨_, h3⟩
theorem d_sl {K : Frg} {H : Hp} {R : Addr → Hp → Prop} {E : XK} (h : ∀ a b l H', H a = none → H b = none → H l = none → SlA K H' a b l sl0 → Same H H' → R a H') : ∀ x dx, H x = none → H dx = none → dx ≠ x → sp_SexpLoose___init__ K (.ref x :: ([] ++ [])) (upd (upd H dx (.own x)) x (.ins (C_SexpLoose K) dx [])) (fun v H2 => v = .non ∧ R x H2) E := fun a dx ha hd hne =>
  ⟨_, rfl, a, dx, rfl, upd_same, fun b l H' nb nl hN c => ⟨rfl, h a b l H' ha (mk_free nb) (mk_free nl) hN (mk_same ha hd c)⟩⟩
def hallR (h : Bool) (es : List Ev) : Bool := es.foldl (fun _ e => hallE e) h
theorem okW_at : ∀ (es : List Ev) (s : Sl) (h : Bool) (j : Nat), okW s h es → (∀ i < j, ∀ x, es[i]? = some x → lackE x = false) → okW (slR s (es.take j)) (hallR h (es.take j)) (es.drop j)
  | [], s, h, j, _, _ => by
    rw [List.take_nil, List.drop_nil]
    trivial
  | e :: es, s, h, 0, o, _ => o
  | e :: es, s, h, j + 1, o, q => by
    have e0 : lackE e = false := q 0 (by omega) e rfl
    rcases o with z | z
    · rw [e0] at z
      cases z
    · exact okW_at es (slS s e) (hallE e) j z.2.2 fun i hi x hx => q (i + 1) (by omega) x (by simpa using hx)
theorem drop_get {α : Type} {l : List α} {j : Nat} {e : α} (h : l[j]? = some e) : l.drop j = e :: l.drop (j + 1) := by
  obtain ⟨hi, he⟩ := List.getElem?_eq_some_iff.mp h
  rw [← he, List.getElem_cons_drop]
theorem slR_take {s : Sl} {es : List Ev} {j : Nat} {e : Ev} (h : es[j]? = some e) : slR s (es.take (j + 1)) = slS (slR s (es.take j)) e := by
  rw [take_one h, slR_app]
  rfl
theorem outs_take {s : Sl} {es : List Ev} {j : Nat} {e : Ev} (h : es[j]? = some e) : outs s (es.take (j + 1)) = outs s (es.take j) ++ [slO (slR s (es.take j)) e] := by
  rw [take_one h, outs_app]
  rfl
theorem outs_len : ∀ (es : List Ev) (s : Sl), (outs s es).length = es.length
  | [], _ => rfl
  | e :: es, s => congrArg (· + 1) (outs_len es (slS s e))
theorem outs_get : ∀ (es : List Ev) (s : Sl) (j : Nat) (e : Ev), es[j]? = some e → (outs s es)[j]? = some (slO (slR s (es.take j)) e)
  | [], _, _, _, h => by simp at h
  | x :: es, s, 0, e, h => by
    cases (show some x = some e from h)
    rfl
  | x :: es, s, j + 1, e, h => outs_get es (slS s x) j e (by simpa using h)
/-- every event that the writer takes is one that it may be given -/
theorem slOk_at {es : List Ev} {j : Nat} {e : Ev} (o : okW sl0 false es) (h : es[j]? = some e) (q : ∀ i < j + 1, ∀ x, es[i]? = some x → lackE x = false) : SlOk (slR sl0 (es.take j)) e ∧ (e = .cl ∨ befO (slR sl0 (es.take j)).st = hallO (hallR false (es.take j))) := by
  have o1 := okW_at es sl0 false j o fun i hi => q i (by omega)
  rw [drop_get h] at o1
  rcases o1 with z | z
  · rw [q j (by omega) e h] at z
    cases z
  · exact ⟨z.1, z.2.1⟩
theorem outs_small {es : List Ev} (o : okW sl0 false es) (q : ∀ i < es.length, ∀ x, es[i]? = some x → lackE x = false) : ∀ x ∈ outs sl0 es, x.length ≤ 605 := fun x hx => by
  obtain ⟨j, hj⟩ := List.mem_iff_getElem?.mp hx
  have hl := (List.getElem?_eq_some_iff.mp hj).1
  rw [outs_len] at hl
  rw [outs_get es sl0 j _ (List.getElem?_eq_getElem hl)] at hj
  cases hj
  exact slO_len (slOk_at o (List.getElem?_eq_getElem hl) fun i hi => q i (by omega)).1
theorem flat_small {xss : List (List Int)} (h : ∀ x ∈ xss, x.length ≤ 605) : xss.flatten.length ≤ 605 * xss.length := by
  induction xss with
  | nil => exact Nat.le_refl _
  | cons x xss ih =>
    have h1 := h x (by simp)
    have h2 := ih fun y hy => h y (List.mem_cons_of_mem _ hy)
    rw [List.flatten_cons, List.length_append, List.length_cons]
    omega
def kindE : Ev → Str
  | .op _ => "open"
  | .ky _ => "key"
  | .lf _ _ => "leaf"
  | .cl => "close"
theorem ev_kind {H : Hp} {v : V} {e : Ev} (h : Tp H v e.dat) : ∃ p ws, v = .ref p ∧ H p = some (.tup (.str (kindE e) :: ws)) := by
  cases e with
  | op m => obtain ⟨p, rfl, hp⟩ := ev_op h; exact ⟨p, _, rfl, hp⟩
  | ky k => obtain ⟨p, u, rfl, hp⟩ := ev_ky h; exact ⟨p, _, rfl, hp⟩
  | lf k r => obtain ⟨p, q, xs, rfl, hp, _⟩ := ev_lf h; exact ⟨p, _, rfl, hp⟩
  | cl => obtain ⟨p, rfl, hp⟩ := ev_cl h; exact ⟨p, _, rfl, hp⟩
theorem kind_cnt (e : Ev) : (decide (kindE e = "open") || decide (kindE e = "leaf")) = decide (cntE e = 1) := by
  cases e with
  | op m => exact (by decide +kernel : (decide (("open" : Str) = "open") || decide (("open" : Str) = "leaf")) = true)
  | ky k => exact (by decide +kernel : (decide (("key" : Str) = "open") || decide (("key" : Str) = "leaf")) = false)
  | lf k r => exact (by decide +kernel : (decide (("leaf" : Str) = "open") || decide (("leaf" : Str) = "leaf")) = true)
  | cl => exact (by decide +kernel : (decide (("close" : Str) = "open") || decide (("close" : Str) = "leaf")) = false)
theorem slS_m (s : Sl) (e : Ev) : (slS s e).m = s.m + cntE e := by cases e <;> rfl
theorem cnt_two (e : Ev) : cntE e = 0 ∨ cntE e = 1 := by cases e <;> simp [cntE]
/-- an event that the law finds lacking is no list -/
theorem okW_kind {s : Sl} {h : Bool} {e : Ev} {es : List Ev} (o : okW s h (e :: es)) : ∀ k r, e = .lf k r → k ≠ "list" := fun k r z => by
  subst z
  rcases o with q | q
  · have q : (decide (k ≠ "bytes") && decide (k ≠ "list")) = true := q
    have := (Bool.and_eq_true_iff.mp q).2
    exact of_decide_eq_true this
  · obtain ⟨e, _⟩ := q.1
    rw [e]
    decide +kernel
/-- where all stands behind k events -/
def Lp (K : Frg) (M : List Addr) (a1 b1 l1 a2 b2 l2 pH pR pK : Addr) (es : List Ev) (k : Nat) (H : Hp) (po : Addr) : Prop :=
  SlA K H a1 b1 l1 (slR sl0 (es.take k)) ∧ SlA K H a2 b2 l2 (slR sl0 (es.take ((k + 1) / 2))) ∧ H pH = some (.lst [.bl (hallR false (es.take k))]) ∧ po ∉ M ∧ H po = some (.lst ((outs sl0 (es.take k)).flatten.map V.int)) ∧
  ∃ rs ks, RwAt M H rs (outs sl0 (es.take k)) ∧ RwAt M H ks (outs sl0 (es.take k)) ∧ H pR = some (.lst (rs.map V.ref)) ∧ H pK = some (.lst (ks.map V.ref))
theorem nd_new {H : Hp} {A B : List Addr} (ha : A.Nodup) (hb : B.Nodup) (la : ∀ x ∈ A, ∃ u, H x = some u) (fb : ∀ x ∈ B, H x = none) : (A ++ B).Nodup := List.nodup_append.mpr ⟨ha, hb, fun a h1 b h2 e => by
  obtain ⟨u, hu⟩ := la a h1
  rw [e, fb b h2] at hu
  cases hu⟩
theorem lv_app {H H' : Hp} {A B : List Addr} (la : ∀ x ∈ A, ∃ u, H x = some u) (s : Same H H') (lb : ∀ x ∈ B, ∃ u, H' x = some u) : ∀ x ∈ A ++ B, ∃ u, H' x = some u := fun x hx => by
  rcases List.mem_append.mp hx with q | q
  · obtain ⟨u, hu⟩ := la x q
    exact ⟨u, s _ _ hu⟩
  · exact lb x q
theorem lv_one {H : Hp} {p : Addr} {u : HO} (h : H p = some u) : ∀ x ∈ [p], ∃ u, H x = some u := fun x hx => by
  rw [List.mem_singleton.mp hx]
  exact ⟨_, h⟩
theorem SlA.nd {K : Frg} {H : Hp} {a b l : Addr} {s : Sl} (h : SlA K H a b l s) : [a, b, l].Nodup := by
  obtain ⟨_, _, _, _, h⟩ := h
  exact h
theorem ld_lacks {H : Hp} {T : Addr} {m : Int} {n : Nat} (h : H T = some (.tup [.str "lacks", .int m])) : Ld (n + 2) H (.ref T) (.tuple [.str "lacks", .int m]) := by
  refine ⟨T, _, rfl, h, rfl, by show 2 ≤ _; decide, fun i y e h1 h2 => ?_⟩
  match i, h1, h2 with
  | 0, h1, h2 =>
    cases h1
    cases h2
    exact ⟨rfl, by show PyData.canLay0 (.str "lacks") = true; decide +kernel⟩
  | 1, h1, h2 =>
    cases h1
    cases h2
    rfl
  | i + 2, h1, _ => simp at h1
theorem live9 {K : Frg} {H : Hp} {a1 b1 l1 a2 b2 l2 pH pR pK : Addr} {s t : Sl} {u1 u2 u3 : HO} (S1 : SlA K H a1 b1 l1 s) (S2 : SlA K H a2 b2 l2 t) (g1 : H pH = some u1) (g2 : H pR = some u2) (g3 : H pK = some u3) : ∀ x ∈ [a1, b1, l1, a2, b2, l2, pH, pR, pK], ∃ u, H x = some u := fun x hx => by
  have e : [a1, b1, l1, a2, b2, l2, pH, pR, pK] = ([a1, b1, l1] ++ [a2, b2, l2]) ++ ([pH] ++ ([pR] ++ [pK])) := rfl
  rw [e] at hx
  rcases List.mem_append.mp hx with q | q
  · rcases List.mem_append.mp q with q | q
    · exact S1.live x q
    · exact S2.live x q
  · rcases List.mem_append.mp q with q | q
    · exact lv_one g1 x q
    · rcases List.mem_append.mp q with q | q
      · exact lv_one g2 x q
      · exact lv_one g3 x q
theorem not_live {H : Hp} {M : List Addr} (h : ∀ x ∈ M, ∃ u, H x = some u) {q : Addr} (n : H q = none) : q ∉ M := fun z => by
  obtain ⟨u, hu⟩ := h q z
  rw [n] at hu
  cases hu

/-! ### the law -/

section
variable {P : Program} {w : World} {K : PySem.W.Frag} {mg : Str → Option Value} {base : Heap} {f : Addr} {fd : FuncData}
theorem ok_law (F : FunD K "law" "law" (defArgs s_law) (defBody s_law) (defScope s_law) [] [] (glAd "law" K) fd) (nb : Nm w K mg) (k_SexpLoose : Mak P w K mg base 3 "SexpLoose" (C_SexpLoose K) (sp_SexpLoose___init__ K) []) (c__law_cell : Cal P w K mg base 1 "_law_cell" (sp__law_cell K) []) (c__law_state : Cal P w K mg base 2 "_law_state" (sp__law_state K) []) (c__law_next : Cal P w K mg base 1 "_law_next" (sp__law_next K) []) (c__law_value : Cal P w K mg base 10 "_law_value" (sp__law_value K 5) []) (c__law_towered : Cal P w K mg base 2 "_law_towered" (sp__law_towered K) []) (c__law_same : Cal P w K mg base 91 "_law_same" (sp__law_same K 90) []) (c__law_events : Cal P w K mg base 33 "_law_events" (sp__law_events K 30) []) (c__law_taken : Cal P w K mg base 6 "_law_taken" (sp__law_taken K) []) (c__law_read : Cal P w K mg base 10 "_law_read" (sp__law_read K) []) (c__law_lacks : Cal P w K mg base 1 "_law_lacks" (sp__law_lacks K) []) (c__law_loosely : Cal P w K mg base 6 "_law_loosely" (sp__law_loosely K) []) : FnOk P w K mg base CX0 92 (glAd "law" K) fd ["script"] (sp_law K) := by
  refine fnD F sc_law len1 (fun cdv A outer s H vs Q E hr h => ⟨_, (pss_cons (ps_set (i := 1) sc_law.nd rfl (Or.inl rfl) (pe_c c__law_state hr (by decide) rfl (pa_cons (pv 0) (pa_cons (pe_op op_add pe_int (pe_op op_mod (pe_callTy call_int1 (by rfl) nb.int (by decide +kernel) (pa_cons (pe_callB call_abs (by rfl) nb.abs (by decide +kernel) (pa_cons (pe_c c__law_cell hr (by decide) rfl (pa_cons (pv 0) (pa_cons pe_int pa_nil))) pa_nil)) pa_nil)) pe_int)) pa_nil))))
    (pss_cons (ps_set (i := 2) sc_law.nd rfl (Or.inl rfl) (pe_ix ix_list (pe_lstE (pa_cons pe_str (pa_cons pe_str (pa_cons pe_str (pa_cons pe_str (pa_cons pe_str pa_nil)))))) (pe_c c__law_next hr (by decide) rfl (pa_cons (pv 1) (pa_cons pe_int pa_nil))) (fun _ _ => rfl)))
    (pss_cons (ps_set (i := 3) sc_law.nd rfl (Or.inl rfl) (pe_cmpR op_eq (pe_c c__law_next hr (by decide) rfl (pa_cons (pv 1) (pa_cons pe_int pa_nil))) pe_int (nomark _)))
    (pss_cut (ps_if (pt_cmpR op_eq (pe_c c__law_next hr (by decide) rfl (pa_cons (pv 1) (pa_cons pe_int pa_nil))) pe_int (nomark _))
    (pss_cons (ps_set (i := 2) sc_law.nd rfl (Or.inl rfl) pe_str)
    (pss_one (ps_set (i := 3) sc_law.nd rfl (Or.inl rfl) pe_bl)))
    pss_nil)
    (pss_cons (ps_set (i := 4) sc_law.nd rfl (Or.inl rfl) (pe_c c__law_towered hr (by decide) rfl (pa_cons (pv 1) (pa_cons (pe_c c__law_value hr (by decide) rfl (pa_cons (pv 1) (pa_cons pe_int (pa_cons (pe_op op_cat (pe_op op_rep (pe_lstE (pa_cons pe_str pa_nil)) pe_int) (pe_lstE (pa_cons (pv 2) pa_nil))) (pa_cons (pv 3) pa_nil))))) (pa_cons (pv 3) pa_nil)))))
    (pss_cons (ps_set (i := 5) sc_law.nd rfl (Or.inl rfl) (pe_c c__law_events hr (by decide) rfl (pa_cons (pv 1) (pa_cons (pv 4) pa_nil))))
    (pss_cons (ps_set (i := 6) sc_law.nd rfl (Or.inl rfl) (pe_mk0 k_SexpLoose hr (by decide) rfl))
    (pss_cons (ps_set (i := 7) sc_law.nd rfl (Or.inl rfl) (pe_mk0 k_SexpLoose hr (by decide) rfl))
    (pss_cons (ps_set (i := 8) sc_law.nd rfl (Or.inl rfl) (pe_lstE (pa_cons pe_bl pa_nil)))
    (pss_cons (ps_set (i := 9) sc_law.nd rfl (Or.inl rfl) (pe_lstE pa_nil))
    (pss_cons (ps_set (i := 10) sc_law.nd rfl (Or.inl rfl) (pe_lstE pa_nil))
    (pss_cons (ps_set (i := 11) sc_law.nd rfl (Or.inl rfl) (pe_lstE pa_nil))
    (pss_cons (ps_set (i := 12) sc_law.nd rfl (Or.inl rfl) pe_int)
    (pss_cons (ps_for PassesOwn.never rfl (pi_range1 rfl nb.range (pa_cons (pe_callB call_len_seq (by rfl) nb.len PySem.boot_len (pa_cons (pv 5) pa_nil)) pa_nil)) (pg_name (i := 13) sc_law.nd rfl (Or.inl rfl))
    (pss_cons (ps_set (i := 14) sc_law.nd rfl (Or.inl rfl) (pe_ix ix_list (pv 5) (pv 13) (fun _ _ => rfl)))
    (pss_cons (ps_set (i := 15) sc_law.nd rfl (Or.inl rfl) (pe_c c__law_taken hr (by decide) rfl (pa_cons (pv 6) (pa_cons (pv 14) pa_nil))))
    (pss_cons (ps_if (pt_val (pe_c c__law_lacks hr (by decide) rfl (pa_cons (pv 14) pa_nil)))
    (pss_one (ps_ret (pe_c c__law_same hr (by decide) rfl (pa_cons (pv 15) (pa_cons (pe_tupE (pa_cons pe_str (pa_cons (pv 12) pa_nil))) pa_nil)))))
    pss_nil)
    (pss_cons (ps_set (i := 12) sc_law.nd rfl (Or.inl rfl) (pe_op op_add (pv 12) (pe_callTy call_int1 (by rfl) nb.int (by decide +kernel) (pa_cons (pe_cmpR op_in_seq (pe_ix ix_tup (pv 14) pe_int (fun _ _ => rfl)) (pe_lstE (pa_cons pe_str (pa_cons pe_str pa_nil))) rfl) pa_nil))))
    (pss_cons (ps_set (i := 16) sc_law.nd rfl (Or.inl rfl) (pe_c c__law_loosely hr (by decide) rfl (pa_cons (pv 8) (pa_cons (pv 14) pa_nil))))
    (pss_cons (ps_expr (pe_bm PySem.F.plainAttrs_list PySem.F.slot_list_append PySem.F.type_list_append mt_append (pv 10) (pa_cons (pv 16) pa_nil)))
    (pss_cons (ps_if (pt_not (pt_val (pe_c c__law_same hr (by decide) rfl (pa_cons (pv 15) (pa_cons (pv 16) pa_nil)))))
    (pss_one (ps_ret pe_bl))
    pss_nil)
    (pss_cons (ps_expr (pe_bm PySem.F.plainAttrs_list PySem.F.slot_list_append PySem.F.type_list_append mt_append (pv 11) (pa_cons (pv 15) pa_nil)))
    (pss_cons (ps_set (i := 9) sc_law.nd rfl (Or.inl rfl) (pe_op op_cat (pv 9) (pv 16)))
    (pss_one (ps_if (pt_cmpR op_eq (pe_op op_mod (pe_callTy call_int1 (by rfl) nb.int (by decide +kernel) (pa_cons (pv 13) pa_nil)) pe_int) pe_int (nomark _))
    (pss_cons (ps_set (i := 17) sc_law.nd rfl (Or.inl rfl) (pe_c c__law_taken hr (by decide) rfl (pa_cons (pv 7) (pa_cons (pe_ix ix_list (pv 5) (pe_op op_fdiv (pv 13) pe_int) (fun _ _ => rfl)) pa_nil))))
    (pss_cons (ps_if (pt_not (pt_val (pe_c c__law_same hr (by decide) rfl (pa_cons (pv 17) (pa_cons (pe_ix ix_list (pv 10) (pe_op op_fdiv (pv 13) pe_int) (fun _ _ => rfl)) pa_nil)))))
    (pss_one (ps_ret pe_bl))
    pss_nil)
    (pss_one (ps_expr (pe_bm PySem.F.plainAttrs_list PySem.F.slot_list_append PySem.F.type_list_append mt_append (pv 17) (pa_cons pe_int pa_nil))))))
    pss_nil))))))))))))
    (pss_one (ps_ret (pe_and (pe_c c__law_same hr (by decide) rfl (pa_cons (pv 11) (pa_cons (pv 10) pa_nil))) (pe_one (pe_c c__law_same hr (by decide) rfl (pa_cons (pe_c c__law_read hr (by decide) rfl (pa_cons (pv 9) pa_nil)) (pa_cons (pv 4) pa_nil))))))))))))))))))))), ?_⟩)
  obtain ⟨_, rfl, sl, ns, rfl, hs, h⟩ := h
  -- 0:script 1:state 2:odd 3:has_maps 4:value 5:events 6:writer 7:other 8:hall 9:octets 10:rows 11:kept 12:begun 13:k 14:event 15:told 16:due 17:half
  walk_at "rf"
  refine ⟨_, _, rfl, sl, ns, 0, rfl, rfl, hs, by decide, fun z => ?_⟩
  walk_at "rf"
  refine ⟨_, _, rfl, sl, ns, 8 + (z.natAbs : Int) % 30, rfl, by congr 2; split <;> omega, hs, fun S H1 eS1 eS2 L1 s1 nS => ?_⟩
  walk_at "rf"
  refine ⟨by show 5 ≤ sizeLine; decide, fun p2 H2 n2 g2 s2 => ?_⟩
  have g2 : H2 p2 = some (.lst ((["bytes", "text", "null", "truth", "number"] : List Str).map V.str)) := g2
  have L2 := L1.same s2
  walk_at "rf"
  refine b_next L2 (by decide) fun r3 H3 a3 b3 L3 k3 => ?_
  obtain ⟨odd, hodd, eodd⟩ : ∃ odd : Str, odd ∈ (["bytes", "text", "null", "truth", "number"] : List Str) ∧ atI ((["bytes", "text", "null", "truth", "number"] : List Str).map V.str) r3 = some (.str odd) := by
    have : r3 = 0 ∨ r3 = 1 ∨ r3 = 2 ∨ r3 = 3 ∨ r3 = 4 := by omega
    rcases this with e | e | e | e | e <;> subst e
    · exact ⟨"bytes", by simp, rfl⟩
    · exact ⟨"text", by simp, rfl⟩
    · exact ⟨"null", by simp, rfl⟩
    · exact ⟨"truth", by simp, rfl⟩
    · exact ⟨"number", by simp, rfl⟩
  refine r_ixL (SqL.of (k3 _ _ (L1.ne_free n2) g2)) eodd ?_
  have k03 : Keep S H1 H3 := (Keep.of s2).trans k3
  walk_at "rf"
  refine b_next L3 (by decide) fun r4 H4 a4 b4 L4 k4 => ?_
  walk_at "rf"
  refine r_cut (fun σ H' => LB K S (8 + (z.natAbs : Int) % 30) H' ∧ Keep S H1 H' ∧ ∃ (odd : Str) (mp : Bool), odd ∈ (["bytes", "text", "null", "truth", "number"] : List Str) ∧ σ = [some (.ref sl), some (.ref S.a), some (.str odd), some (.bl mp), none, none, none, none, none, none, none, none, none, none, none, none, none, none]) ?_ ?_
  · walk_at "rf"
    refine b_next L4 (by decide) fun r5 H5 a5 b5 L5 k5 => ?_
    have k5 := (k03.trans k4).trans k5
    walk_at "rf"
    refine r_ite (fun c => ?_) (fun c => ?_)
    · walk_at "rf"
      exact ⟨L5, k5, "bytes", false, by simp, rfl⟩
    · walk_at "rf"
      exact ⟨L5, k5, odd, _, hodd, rfl⟩
  clear L2 L3 L4 k03 k3 k4 hodd eodd g2 s2 n2
  rintro σ H5 ⟨L5, k5, odd, mp, hodd, rfl⟩
  walk_at "rf"
  refine ⟨by show 1 ≤ sizeLine; decide, fun p6 H6 n6 g6 s6 => ?_⟩
  walk_at "rf"
  refine ⟨p6, 7, [.str "bytes"], rfl, rfl, g6, by decide, by decide, by decide, fun p7 n7 => ?_⟩
  obtain ⟨H7, e7, s7, g7⟩ := new_o (o := HO.lst (List.replicate (7 : Int).toNat [V.str "bytes"]).flatten) n7
  rw [e7]
  clear e7
  walk_at "rf"
  refine ⟨by show 1 ≤ sizeLine; decide, fun p8 H8 n8 g8 s8 => ?_⟩
  refine r_catV (s8 _ _ g7) g8 (by show 7 + 1 ≤ _; decide) fun kl H9 n9 g9 s9 => ?_
  have g9 : H9 kl = some (.lst ((["bytes", "bytes", "bytes", "bytes", "bytes", "bytes", "bytes", odd] : List Str).map V.str)) := g9
  have s59 := ((s6.trans s7).trans s8).trans s9
  have L8 := ((L5.same s6).same s7).same s8
  have L9 := L8.same s9
  have ko : KsOk ["bytes", "bytes", "bytes", "bytes", "bytes", "bytes", "bytes", odd] := ⟨by show 0 < 8; decide, by show 8 ≤ 100; decide, fun k hk => by
    simp only [List.mem_cons, List.not_mem_nil, or_false] at hk hodd
    rcases hk with e | e | e | e | e | e | e | e <;> (try (rw [e]; simp)) ; subst e; rcases hodd with e | e | e | e | e <;> rw [e] <;> simp⟩
  walk_at "rf"
  refine ⟨_, _, _, _, rfl, S, _, 4, kl, _, mp, rfl, rfl, rfl, rfl, L8.ne_free n9, g9, ko, by decide, L9, fun v t l3 H10 gf bud tp L10 k10 => ?_⟩
  walk_at "rf"
  refine ⟨_, _, _, rfl, S, _, t, mp, rfl, rfl, L10, tp, gf, fun v4 t4 n4 H11 hn4 gf4 sz4 tp4 L11 k11 => ?_⟩
  have vs4 : vsz t4 ≤ 4000 := by
    unfold Bud at bud
    omega
  walk_at "rf"
  refine ⟨_, _, rfl, S, _, t4, n4, rfl, tp4, gf4, by omega, L11, by omega, fun pE vs es H12 er el nE nES gE tE L12 k12 => ?_⟩
  have tp4 := Tp.tk (keep_tk L11.ls k12) _ _ tp4
  have ow := okW_val n4 t4 es gf4 er sl0 false [] (by show 0 + n4 ≤ 40; omega) rfl (fun m => trivial)
  rw [List.append_nil] at ow
  clear L5 k5 n6 g6 s6 n7 s7 g7 n8 g8 s8 n9 g9 s9 s59 L8 L9 ko bud tp L10 k10 L11 k11 L12 k12 nE nES gf
  walk_at "rf"
  refine d_sl fun a1 b1 l1 H13 na1 nb1 nl1 S1 s13 => ?_
  walk_at "rf"
  refine d_sl fun a2 b2 l2 H14 na2 nb2 nl2 S2 s14 => ?_
  walk_at "rf"
  refine ⟨by show 1 ≤ sizeLine; decide, fun pH H15 nH gH s15 => ?_⟩
  walk_at "rf"
  refine ⟨by show 0 ≤ sizeLine; decide, fun po H16 no go s16 => ?_⟩
  walk_at "rf"
  refine ⟨by show 0 ≤ sizeLine; decide, fun pR H17 nR gR s17 => ?_⟩
  walk_at "rf"
  refine ⟨by show 0 ≤ sizeLine; decide, fun pK H18 nK gK s18 => ?_⟩
  walk_at "rf"
  have s1218 := s13.trans (s14.trans (s15.trans (s16.trans (s17.trans s18))))
  have gE0 := gE
  have gE := s1218 _ _ gE0
  refine ⟨pE, _, rfl, .inl (SqL.of gE), ?_⟩
  have vl : vs.length = es.length := by rw [tpAll_len tE, evD_len]
  walk_at "rf"
  have tp4 := Tp.tk (Same.tk s1218) _ _ tp4
  have tE := TpAll.tk (Same.tk s1218) _ _ tE
  have fr2 : ∀ x ∈ [a2, b2, l2], H13 x = none := fun x hx => by
    simp only [List.mem_cons, List.not_mem_nil, or_false] at hx
    rcases hx with e | e | e <;> rw [e] <;> assumption
  have one : ∀ {H : Hp} {p : Addr}, H p = none → ∀ x ∈ [p], H x = none := fun h x hx => by rw [List.mem_singleton.mp hx]; exact h
  have nd1_ : ∀ {p : Addr}, [p].Nodup := by simp
  have nd1 := nd_new S1.nd S2.nd S1.live fr2
  have lv1 := lv_app (lv_app S1.live s14 S2.live) s15 (lv_one gH)
  have nd2 := nd_new nd1 nd1_ (lv_app S1.live s14 S2.live) (one nH)
  have nd3 := nd_new nd2 nd1_ lv1 (one no)
  have lv3 := lv_app lv1 s16 (lv_one go)
  have nd4 := nd_new nd3 nd1_ lv3 (one nR)
  have hN := nd_new nd4 nd1_ (lv_app lv3 s17 (lv_one gR)) (one nK)
  simp only [List.cons_append, List.nil_append, List.nodup_cons, List.mem_cons, List.not_mem_nil, or_false, not_or, List.nodup_nil, and_true, not_false_eq_true] at hN
  have eE : pE ≠ a1 ∧ pE ≠ b1 ∧ pE ≠ l1 ∧ pE ≠ a2 ∧ pE ≠ b2 ∧ pE ≠ l2 ∧ pE ≠ pH ∧ pE ≠ pR ∧ pE ≠ pK := ⟨Same.ne na1 gE0, Same.ne nb1 gE0, Same.ne nl1 gE0, Same.ne na2 (s13 _ _ gE0), Same.ne nb2 (s13 _ _ gE0), Same.ne nl2 (s13 _ _ gE0), Same.ne nH (s14 _ _ (s13 _ _ gE0)), Same.ne nR (s16 _ _ (s15 _ _ (s14 _ _ (s13 _ _ gE0)))), Same.ne nK (s17 _ _ (s16 _ _ (s15 _ _ (s14 _ _ (s13 _ _ gE0)))))⟩
  have pEM : pE ∉ [a1, b1, l1, a2, b2, l2, pH, pR, pK] := by
    simp only [List.mem_cons, List.not_mem_nil, or_false]
    grind
  have poM : po ∉ [a1, b1, l1, a2, b2, l2, pH, pR, pK] := by
    simp only [List.mem_cons, List.not_mem_nil, or_false]
    grind
  have sT : ∀ {H H' : Hp}, Same H H' → Ch [a1, b1, l1, a2, b2, l2, pH, pR, pK] H18 H → Ch [a1, b1, l1, a2, b2, l2, pH, pR, pK] H18 H' := fun s c => Ch.same s c
  have s1418 := s15.trans (s16.trans (s17.trans s18))
  refine r_turns (by omega) (by omega) (fun i σ H' => (∀ j < i, ∀ x, es[j]? = some x → lackE x = false) ∧ Ch [a1, b1, l1, a2, b2, l2, pH, pR, pK] H18 H' ∧ ∃ (po : Addr) (y13 y14 y15 y16 y17 : Option V), Lp K [a1, b1, l1, a2, b2, l2, pH, pR, pK] a1 b1 l1 a2 b2 l2 pH pR pK es i H' po ∧ σ = [some (.ref sl), some (.ref S.a), some (.str odd), some (.bl mp), some v4, some (.ref pE), some (.ref a1), some (.ref a2), some (.ref pH), some (.ref po), some (.ref pR), some (.ref pK), some (.int ((slR sl0 (es.take i)).m : Nat)), y13, y14, y15, y16, y17]) ⟨fun j hj => absurd hj (Nat.not_lt_zero j), Ch.refl, po, _, _, _, _, _, ⟨S1.same (s14.trans s1418), S2.same s1418, (s16.trans (s17.trans s18)) _ _ gH, poM, (s17.trans s18) _ _ go, [], [], ⟨rfl, fun j r x a => by simp at a⟩, ⟨rfl, fun j r x a => by simp at a⟩, s18 _ _ gR, gK⟩, rfl⟩ ?_ ?_
  · rintro i σ H' hi ⟨hq, c0, po, y13, y14, y15, y16, y17, ⟨S1, S2, gH, poM, gpo, rs, ks, Rr, Rk, gR, gK⟩, rfl⟩
    have hi2 : i < es.length := by omega
    obtain ⟨e, hx⟩ : ∃ e, es[i]? = some e := ⟨_, List.getElem?_eq_getElem hi2⟩
    obtain ⟨v, hv⟩ : ∃ v, vs[i]? = some v := ⟨_, List.getElem?_eq_getElem (by omega)⟩
    have tv : Tp H18 v e.dat := by
      obtain ⟨d, h1, h2⟩ := tpAll_get tE hv
      unfold evD at h1
      rw [List.getElem?_map, hx] at h1
      cases h1
      exact h2
    have gE' := c0.get pEM gE
    have te := Tp.tk c0.tk _ _ tv
    have owi := okW_at es sl0 false i ow hq
    rw [drop_get hx] at owi
    have hkind := okW_kind owi
    walk_at "rf"
    refine r_ixL (SqL.of gE') (atI_nat hv) ?_
    walk_at "rf"
    refine ⟨_, _, rfl, a1, b1, l1, _, e, rfl, S1, te, fun z T H2 gT c2 => ?_, fun z => ?_⟩
    · walk_at "rf"
      refine ⟨_, rfl, e, Tp.tk c2.tk _ _ te, hkind, fun H3 s3 => ⟨_, rfl, ?_⟩⟩
      rw [z, if_pos rfl]
      walk_at "rf"
      refine ⟨by show 2 ≤ sizeLine; decide, fun q4 H4 n4 g4 s4 => ?_⟩
      walk_at "rf"
      exact ⟨_, _, rfl, _, ld_lacks ((s3.trans s4) _ _ gT), ld_lacks g4, fun H5 s5 => h _⟩
    have hq1 : ∀ j < i + 1, ∀ x, es[j]? = some x → lackE x = false := fun j hj x hx2 => by
      by_cases c : j < i
      · exact hq j c x hx2
      · have : j = i := by omega
        subst this
        rw [hx] at hx2
        cases hx2
        exact z
    obtain ⟨ok, hh⟩ := slOk_at ow hx hq1
    refine ⟨ok, fun q2 H2 n2 g2 S12 c2 => ?_⟩
    walk_at "rf"
    refine ⟨_, rfl, e, Tp.tk c2.tk _ _ te, hkind, fun H3 s3 => ⟨_, rfl, ?_⟩⟩
    rw [z, if_neg (by decide)]
    walk_at "rf"
    have M2 : Ch [a1, b1, l1, a2, b2, l2, pH, pR, pK] H' H2 := c2.mono (by simp)
    have M3 : Ch [a1, b1, l1, a2, b2, l2, pH, pR, pK] H' H3 := Ch.same s3 M2
    obtain ⟨pv, wv, rfl, hpv⟩ := ev_kind (Tp.tk M3.tk _ _ te)
    refine r_ixT (SqT.of hpv) (atI_nat (j := 0) rfl) ?_
    walk_at "rf"
    refine ⟨by show 2 ≤ sizeLine; decide, fun q6 H6 n6 g6 s6 => ?_⟩
    refine ⟨q6, _, rfl, .inl (SqL.of g6), rfl, rfl, ?_⟩
    rw [if_neg Bool.false_ne_true, in_two, kind_cnt]
    walk_at "rf"
    refine .inr ⟨_, rfl, ?_⟩
    walk_at "rf"
    have eb : (((slR sl0 (es.take i)).m : Nat) : Int) + (if decide (cntE e = 1) = true then 1 else 0) = (((slR sl0 (es.take (i + 1))).m : Nat) : Int) := by
      rw [slR_take hx, slS_m]
      rcases cnt_two e with c | c <;> rw [c] <;> simp
    rw [eb]
    have M6 : Ch [a1, b1, l1, a2, b2, l2, pH, pR, pK] H' H6 := Ch.same s6 M3
    have s26 := s3.trans s6
    have S12 := S12.same s26
    have S2_ := S2
    have gR_ := gR
    have gK_ := gK
    have S2 := (S2.ch c2 (by simp only [List.mem_cons, List.not_mem_nil, or_false]; grind) (by simp only [List.mem_cons, List.not_mem_nil, or_false]; grind) (by simp only [List.mem_cons, List.not_mem_nil, or_false]; grind)).same s26
    have gH6 : H6 pH = _ := s26 _ _ (c2.get (by simp only [List.mem_cons, List.not_mem_nil, or_false]; grind) gH)
    refine ⟨_, _, rfl, pH, _, _, e, rfl, gH6, Tp.tk M6.tk _ _ te, ok, hh, fun q7 H7 n7 g7 gH7 c7 => ?_⟩
    have M7 : Ch [a1, b1, l1, a2, b2, l2, pH, pR, pK] H' H7 := M6.trans (c7.mono (by simp))
    have Rr := Rr.ch M7 fun x hx => .inl hx
    have Rk := Rk.ch M7 fun x hx => .inl hx
    have gR := s26 _ _ (c2.get (by simp only [List.mem_cons, List.not_mem_nil, or_false]; grind) gR)
    have gK := s26 _ _ (c2.get (by simp only [List.mem_cons, List.not_mem_nil, or_false]; grind) gK)
    have gR7 := c7.get (by simp only [List.mem_cons, List.not_mem_nil, or_false]; grind) gR
    have gK7 := c7.get (by simp only [List.mem_cons, List.not_mem_nil, or_false]; grind) gK
    walk_at "rf"
    refine ⟨tyL gR7, ?_⟩
    walk_at "rf"
    refine r_appE gR7 (small16M (by rw [List.length_map, Rr.1, outs_len, List.length_take]; omega)) fun H8 g8 f8 => ?_
    walk_at "rf"
    have q2M := not_live (live9 S1 S2_ gH gR_ gK_) n2
    have q7M := not_live (live9 S12 S2 gH6 gR gK) n7
    have M8 : Ch [a1, b1, l1, a2, b2, l2, pH, pR, pK] H' H8 := Ch.eb f8 (by simp) M7
    have C8 : Ch [pR] H7 H8 := Ch.eb (o := [pR]) f8 (by simp) Ch.refl
    have g2_7 := c7.get (by simp only [List.mem_cons, List.not_mem_nil, or_false] at q2M ⊢; grind) (s26 _ _ g2)
    have g2_8 := C8.get (by simp only [List.mem_cons, List.not_mem_nil, or_false] at q2M ⊢; grind) g2_7
    have g7_8 := C8.get (by simp only [List.mem_cons, List.not_mem_nil, or_false] at q7M ⊢; grind) g7
    have gK8 := C8.get (by simp only [List.mem_cons, List.not_mem_nil, or_false]; grind) gK7
    have sl_ := slO_len ok
    refine ⟨_, _, rfl, _, ld_ints g2_8 (by omega), ld_ints g7_8 (by omega), fun H9 s9 => ⟨true, rfl, ?_⟩⟩
    walk_at "rf"
    have gK9 := s9 _ _ gK8
    refine ⟨tyL gK9, ?_⟩
    walk_at "rf"
    refine r_appE gK9 (small16M (by rw [List.length_map, Rk.1, outs_len, List.length_take]; omega)) fun H10 g10 f10 => ?_
    walk_at "rf"
    have M10 : Ch [a1, b1, l1, a2, b2, l2, pH, pR, pK] H' H10 := Ch.eb f10 (by simp) (Ch.same s9 M8)
    have C10 : Ch [pR, pK] H7 H10 := Ch.eb f10 (by simp) (Ch.same s9 (C8.mono (by simp)))
    have g7_10 := C10.get (by simp only [List.mem_cons, List.not_mem_nil, or_false] at q7M ⊢; grind) g7
    have g2_10 := C10.get (by simp only [List.mem_cons, List.not_mem_nil, or_false] at q2M ⊢; grind) g2_7
    have outs605 : ∀ x ∈ outs sl0 (es.take i), x.length ≤ 605 := fun x hx2 => by
      obtain ⟨j, hj⟩ := List.mem_iff_getElem?.mp hx2
      have hl := (List.getElem?_eq_some_iff.mp hj).1
      rw [outs_len, List.length_take] at hl
      obtain ⟨e', he'⟩ : ∃ e', es[j]? = some e' := ⟨_, List.getElem?_eq_getElem (by omega)⟩
      have hj2 : (es.take i)[j]? = some e' := by rw [List.getElem?_take, if_pos (by omega), he']
      rw [outs_get _ sl0 j e' hj2, List.take_take, Nat.min_eq_left (by omega)] at hj
      cases hj
      exact slO_len (slOk_at ow he' fun a ha => hq1 a (by omega)).1
    have fl := flat_small outs605
    rw [outs_len, List.length_take] at fl
    refine r_catB (M10.get poM gpo) g7_10 (by omega) fun q11 H11 n11 g11 s11 => ?_
    walk_at "rf"
    have C11 : Ch [pR, pK] H7 H11 := Ch.same s11 C10
    have M11 : Ch [a1, b1, l1, a2, b2, l2, pH, pR, pK] H' H11 := Ch.same s11 M10
    have T1 := (S12.ch c7 (by simp only [List.mem_cons, List.not_mem_nil, or_false]; grind) (by simp only [List.mem_cons, List.not_mem_nil, or_false]; grind) (by simp only [List.mem_cons, List.not_mem_nil, or_false]; grind)).ch C11 (by simp only [List.mem_cons, List.not_mem_nil, or_false]; grind) (by simp only [List.mem_cons, List.not_mem_nil, or_false]; grind) (by simp only [List.mem_cons, List.not_mem_nil, or_false]; grind)
    have T2 := (S2.ch c7 (by simp only [List.mem_cons, List.not_mem_nil, or_false]; grind) (by simp only [List.mem_cons, List.not_mem_nil, or_false]; grind) (by simp only [List.mem_cons, List.not_mem_nil, or_false]; grind)).ch C11 (by simp only [List.mem_cons, List.not_mem_nil, or_false]; grind) (by simp only [List.mem_cons, List.not_mem_nil, or_false]; grind) (by simp only [List.mem_cons, List.not_mem_nil, or_false]; grind)
    have T1' := (S12.ch c7 (by simp only [List.mem_cons, List.not_mem_nil, or_false]; grind) (by simp only [List.mem_cons, List.not_mem_nil, or_false]; grind) (by simp only [List.mem_cons, List.not_mem_nil, or_false]; grind)).ch C10 (by simp only [List.mem_cons, List.not_mem_nil, or_false]; grind) (by simp only [List.mem_cons, List.not_mem_nil, or_false]; grind) (by simp only [List.mem_cons, List.not_mem_nil, or_false]; grind)
    have T2' := (S2.ch c7 (by simp only [List.mem_cons, List.not_mem_nil, or_false]; grind) (by simp only [List.mem_cons, List.not_mem_nil, or_false]; grind) (by simp only [List.mem_cons, List.not_mem_nil, or_false]; grind)).ch C10 (by simp only [List.mem_cons, List.not_mem_nil, or_false]; grind) (by simp only [List.mem_cons, List.not_mem_nil, or_false]; grind) (by simp only [List.mem_cons, List.not_mem_nil, or_false]; grind)
    have gH10 := C10.get (by simp only [List.mem_cons, List.not_mem_nil, or_false]; grind) gH7
    have gR10 := f10.get (a := pK) (x := pR) (by grind) (s9 _ _ g8)
    have liv10 := live9 T1' T2' gH10 gR10 g10
    have q11M := not_live liv10 n11
    have gH11 := s11 _ _ gH10
    have gR11 := s11 _ _ gR10
    have gK11 := s11 _ _ g10
    have mR : rs.map V.ref ++ [V.ref q7] = (rs ++ [q7]).map V.ref := by rw [List.map_append]; rfl
    have mK : ks.map V.ref ++ [V.ref q2] = (ks ++ [q2]).map V.ref := by rw [List.map_append]; rfl
    rw [mR] at gR11
    rw [mK] at gK11
    have Rr11 : RwAt [a1, b1, l1, a2, b2, l2, pH, pR, pK] H11 (rs ++ [q7]) (outs sl0 (es.take (i + 1))) := by
      rw [outs_take hx]
      exact (Rr.ch C11 fun x hx => .inl (by revert hx; simp; grind)).snoc q7M (s11 _ _ g7_10)
    have Rk11 : RwAt [a1, b1, l1, a2, b2, l2, pH, pR, pK] H11 (ks ++ [q2]) (outs sl0 (es.take (i + 1))) := by
      rw [outs_take hx]
      exact (Rk.ch C11 fun x hx => .inl (by revert hx; simp; grind)).snoc q2M (s11 _ _ g2_10)
    have g11' : H11 q11 = some (.lst ((outs sl0 (es.take (i + 1))).flatten.map V.int)) := by
      rw [g11, outs_take hx, List.flatten_append]
      simp
    have hH11 : H11 pH = some (.lst [.bl (hallR false (es.take (i + 1)))]) := by
      rw [gH11, take_one hx]
      show _ = some (HO.lst [V.bl ((es.take i ++ [e]).foldl (fun _ e => hallE e) false)])
      rw [List.foldl_append]
      rfl
    rw [← slR_take hx] at T1
    by_cases c : (i : Int) % 2 = 0
    · rw [if_pos (by rw [decide_eq_true c])]
      have ek : (i : Int) / 2 = ((i / 2 : Nat) : Int) := by omega
      walk_at "rf"
      obtain ⟨e2, hx2⟩ : ∃ e2, es[i / 2]? = some e2 := ⟨_, List.getElem?_eq_getElem (by omega)⟩
      obtain ⟨v2, hv2⟩ : ∃ v2, vs[i / 2]? = some v2 := ⟨_, List.getElem?_eq_getElem (by omega)⟩
      have tv2 : Tp H18 v2 e2.dat := by
        obtain ⟨d, h1, h2⟩ := tpAll_get tE hv2
        unfold evD at h1
        rw [List.getElem?_map, hx2] at h1
        cases h1
        exact h2
      have M011 := c0.trans M11
      have z2 : lackE e2 = false := hq1 (i / 2) (by omega) e2 hx2
      obtain ⟨ok2, _⟩ := slOk_at ow hx2 fun a ha => hq1 a (by omega)
      rw [show (i + 1) / 2 = i / 2 by omega] at T2
      rw [ek]
      refine r_ixL (SqL.of (M011.get pEM gE)) (atI_nat hv2) ?_
      walk_at "rf"
      refine ⟨_, _, rfl, a2, b2, l2, _, e2, rfl, T2, Tp.tk M011.tk _ _ tv2, (fun z => by rw [z2] at z; cases z), fun _ => ⟨ok2, fun q12 H12 n12 g12 U2 c12 => ?_⟩⟩
      walk_at "rf"
      have gR12 := c12.get (by simp only [List.mem_cons, List.not_mem_nil, or_false]; grind) gR11
      have sl2_ := slO_len ok2
      obtain ⟨r2, hr2⟩ : ∃ r2, (rs ++ [q7])[i / 2]? = some r2 := ⟨_, List.getElem?_eq_getElem (by rw [List.length_append, Rr.1, outs_len, List.length_take]; show _ < _ + 1; omega)⟩
      have hj2 : (es.take (i + 1))[i / 2]? = some e2 := by rw [List.getElem?_take, if_pos (by omega), hx2]
      have ho2 := outs_get _ sl0 (i / 2) e2 hj2
      rw [List.take_take, Nat.min_eq_left (by omega)] at ho2
      have M12 : Ch [a1, b1, l1, a2, b2, l2, pH, pR, pK] H' H12 := M11.trans (c12.mono (by simp))
      have c12M : Ch [a1, b1, l1, a2, b2, l2, pH, pR, pK] H11 H12 := c12.mono (by simp)
      have Rr12 := Rr11.ch c12M fun x hx => .inl hx
      have Rk12 := Rk11.ch c12M fun x hx => .inl hx
      have gr2 := (Rr12.2 _ _ _ hr2 ho2).2
      rw [ek]
      refine r_ixL (SqL.of gR12) (atI_nat (j := i / 2) (v := .ref r2) (by rw [List.getElem?_map, hr2]; rfl)) ?_
      walk_at "rf"
      refine ⟨_, _, rfl, _, ld_ints g12 (by omega), ld_ints gr2 (by omega), fun H13 s13 => ⟨true, rfl, ?_⟩⟩
      walk_at "rf"
      have g13 := s13 _ _ g12
      refine ⟨tyL g13, ?_⟩
      walk_at "rf"
      refine r_appE g13 (small1000 (by rw [List.length_map]; omega)) fun H14 g14 f14 => ?_
      have C14 : Ch [a2, b2, l2] H11 H14 := Ch.ebn f14 n12 (Ch.same s13 c12)
      have D14 : Ch [q12] H12 H14 := Ch.eb (o := [q12]) f14 (by simp) (Ch.same s13 Ch.refl)
      have q12M := not_live (live9 T1 T2 hH11 gR11 gK11) n12
      have q12M' : q12 ∉ [a1, b1, l1, a2, b2, l2, pH, pR, pK] := q12M
      simp only [List.mem_cons, List.not_mem_nil, or_false, not_or] at q12M
      have q11M' := q11M
      simp only [List.mem_cons, List.not_mem_nil, or_false, not_or] at q11M'
      have M14 : Ch [a1, b1, l1, a2, b2, l2, pH, pR, pK] H11 H14 := C14.mono (by simp)
      walk_at "rf"
      rw [← slR_take hx2] at U2
      have U2' := U2.ch D14 (by simp only [List.mem_cons, List.not_mem_nil, or_false]; grind) (by simp only [List.mem_cons, List.not_mem_nil, or_false]; grind) (by simp only [List.mem_cons, List.not_mem_nil, or_false]; grind)
      rw [show i / 2 + 1 = (i + 1 + 1) / 2 by omega] at U2'
      exact ⟨hq1, M011.trans M14, q11, _, _, _, _, _, ⟨T1.ch C14 (by simp only [List.mem_cons, List.not_mem_nil, or_false]; grind) (by simp only [List.mem_cons, List.not_mem_nil, or_false]; grind) (by simp only [List.mem_cons, List.not_mem_nil, or_false]; grind), U2', C14.get (by simp only [List.mem_cons, List.not_mem_nil, or_false]; grind) hH11, q11M, C14.get (by simp only [List.mem_cons, List.not_mem_nil, or_false]; grind) g11', _, _, Rr11.ch M14 fun x hx => .inl hx, Rk11.ch M14 fun x hx => .inl hx, C14.get (by simp only [List.mem_cons, List.not_mem_nil, or_false]; grind) gR11, C14.get (by simp only [List.mem_cons, List.not_mem_nil, or_false]; grind) gK11⟩, rfl⟩
    · rw [if_neg (by rw [decide_eq_false c]; decide)]
      walk_at "rf"
      rw [show (i + 1) / 2 = (i + 1 + 1) / 2 by omega] at T2
      exact ⟨hq1, c0.trans M11, q11, _, _, _, _, _, ⟨T1, T2, hH11, q11M, g11', _, _, Rr11, Rk11, gR11, gK11⟩, rfl⟩
  · rintro σ H' ⟨hq, c0, po, y13, y14, y15, y16, y17, ⟨S1, S2, gH, poM, gpo, rs, ks, Rr, Rk, gR, gK⟩, rfl⟩
    have en : (vs.length : Int).toNat = es.length := by omega
    rw [en] at hq Rr Rk gpo
    rw [List.take_length] at Rr Rk gpo
    have small := outs_small ow hq
    have fl := flat_small small
    rw [outs_len] at fl
    have nolack : ∀ e ∈ es, lackE e = false := fun e he => by
      obtain ⟨j, hj⟩ := List.mem_iff_getElem?.mp he
      exact hq j (List.getElem?_eq_some_iff.mp hj).1 e hj
    have sf4 := gf_sf n4 t4 es gf4 er nolack
    obtain ⟨ts, tks, eqo⟩ := txt_val n4 t4 es sf4 er sl0
    have eqo := eqo [] (.inl rfl)
    obtain ⟨f1, f2, f3⟩ := fine_all n4 t4 ts sf4 tks
    walk_at "rf"
    refine ⟨_, _, rfl, _, ld_rws gK Rk (by rw [Rk.1, outs_len]; omega) (fun x hx => by have := small x hx; omega), ld_rws gR Rr (by rw [Rr.1, outs_len]; omega) (fun x hx => by have := small x hx; omega), fun H2 s2 => ⟨true, rfl, ?_⟩⟩
    walk_at "rf"
    obtain ⟨sE, uE, R, lE, ovE, lvE⟩ := go_val n4 t4 ts [] sf4 tks (by show 0 + n4 ≤ 24; omega) sx0 sx0 [] (.inl ⟨rfl, rfl, rfl⟩) rfl rfl
    obtain ⟨ok0, run0⟩ := run_tokens sf4 tks f3 (by omega)
    have gpo2 := s2 _ _ gpo
    rw [← eqo] at gpo2
    generalize (sched [] ts).1 = os at gpo2 R
    generalize (sched [] ts).2.1 = rs' at R ok0 run0
    generalize (sched [] ts).2.2 = lt at lE ok0 run0
    have eE : EndOk sE lt := by
      refine ⟨?_, ?_⟩
      · rcases lE with ⟨_, e, hn⟩ | ⟨ps, ht, _, _, e⟩
        · exact .inl ⟨hn, by rw [e]; exact ovE⟩
        · refine .inr ⟨by rw [ht]; rfl, ?_⟩
          rw [e] at lvE
          exact lvE
      · unfold sxLate
        rcases lE with ⟨e0, e, hn⟩ | ⟨ps, ht, _, e0, e⟩
        · rw [if_pos hn, e0]
        · rw [if_neg (fun z => by rw [ht] at z; exact Bool.noConfusion z), e0]
          show [Ev.lf "bytes" [kd (aOs sE.t)]] = _
          rw [ht]
          rfl
    refine ⟨_, rfl, po, os, rs', sE, lt, t4, rfl, .inl gpo2, R, eE, ok0, run0, fun v8 H8 tp8 s8 => ?_⟩
    walk_at "rf"
    have tk := c0.tk.trans (Same.tk (s2.trans s8))
    exact ⟨_, _, rfl, t4.dat, sf_ld sf4 (by omega) tp8, sf_ld sf4 (by omega) (Tp.tk tk _ _ tp4), fun H9 s9 => h _⟩
end

theorem facts {P : Program} {w : World} {K : PySem.W.Frag} {h : Heap} {mg : Str → Option Value} {f : Addr} (X : K.In h) (G : h.Ns mainGlobals mg) (hfa : mg ("law" : Str) = some (.ref f)) (c : SaysX fa ex fn ts w K) :
    ∃ fd : FuncData, (∀ (s : Shared) (v : Value), BindsTo s fd ⟨[v], []⟩ [("script", v)]) ∧ ∀ base : Heap, K.In base → base.Ns mainGlobals mg → FnOk P w K mg base CX0 92 f fd ["script"] (sp_law K) := by
  obtain ⟨fd_Begun___init__, F_Begun___init__⟩ := c.m.def_ 0 (d := d_Begun___init__) rfl
  obtain ⟨fd_SexpLoose___init__, F_SexpLoose___init__⟩ := c.m.def_ 1 (d := d_SexpLoose___init__) rfl
  obtain ⟨fd__law_cell, F__law_cell⟩ := c.m.def_ 2 (d := d__law_cell) rfl
  obtain ⟨fd__law_numbers, F__law_numbers⟩ := c.m.def_ 3 (d := d__law_numbers) rfl
  obtain ⟨fd__law_state, F__law_state⟩ := c.m.def_ 4 (d := d__law_state) rfl
  obtain ⟨fd__law_next, F__law_next⟩ := c.m.def_ 5 (d := d__law_next) rfl
  obtain ⟨fd__law_many, F__law_many⟩ := c.m.def_ 6 (d := d__law_many) rfl
  obtain ⟨fd__law_points, F__law_points⟩ := c.m.def_ 7 (d := d__law_points) rfl
  obtain ⟨fd__law_octets, F__law_octets⟩ := c.m.def_ 8 (d := d__law_octets) rfl
  obtain ⟨fd__law_leaf, F__law_leaf⟩ := c.m.def_ 9 (d := d__law_leaf) rfl
  obtain ⟨fd__law_value, F__law_value⟩ := c.m.def_ 10 (d := d__law_value) rfl
  obtain ⟨fd__law_towered, F__law_towered⟩ := c.m.def_ 11 (d := d__law_towered) rfl
  obtain ⟨fd__law_same, F__law_same⟩ := c.m.def_ 12 (d := d__law_same) rfl
  obtain ⟨fd__law_mixed, F__law_mixed⟩ := c.m.def_ 13 (d := d__law_mixed) rfl
  obtain ⟨fd__law_events, F__law_events⟩ := c.m.def_ 14 (d := d__law_events) rfl
  obtain ⟨fd_AlikeError___init__, F_AlikeError___init__⟩ := c.m.def_ 15 (d := d_AlikeError___init__) rfl
  obtain ⟨fd_is_lacking, F_is_lacking⟩ := c.m.def_ 16 (d := d_is_lacking) rfl
  obtain ⟨fd_Begun__count, F_Begun__count⟩ := c.m.def_ 17 (d := d_Begun__count) rfl
  obtain ⟨fd_Begun_note, F_Begun_note⟩ := c.m.def_ 18 (d := d_Begun_note) rfl
  obtain ⟨fd_begins_token, F_begins_token⟩ := c.m.def_ 19 (d := d_begins_token) rfl
  obtain ⟨fd_is_digit, F_is_digit⟩ := c.m.def_ 20 (d := d_is_digit) rfl
  obtain ⟨fd_goes_on_token, F_goes_on_token⟩ := c.m.def_ 21 (d := d_goes_on_token) rfl
  obtain ⟨fd__can_be_token, F__can_be_token⟩ := c.m.def_ 22 (d := d__can_be_token) rfl
  obtain ⟨fd__quoted, F__quoted⟩ := c.m.def_ 23 (d := d__quoted) rfl
  obtain ⟨fd_in_ascii, F_in_ascii⟩ := c.m.def_ 24 (d := d_in_ascii) rfl
  obtain ⟨fd_hex_digits, F_hex_digits⟩ := c.m.def_ 25 (d := d_hex_digits) rfl
  obtain ⟨fd__hexadecimal, F__hexadecimal⟩ := c.m.def_ 26 (d := d__hexadecimal) rfl
  obtain ⟨fd_loose_octets, F_loose_octets⟩ := c.m.def_ 27 (d := d_loose_octets) rfl
  obtain ⟨fd_SexpLoose__before_item, F_SexpLoose__before_item⟩ := c.m.def_ 28 (d := d_SexpLoose__before_item) rfl
  obtain ⟨fd_SexpLoose_take, F_SexpLoose_take⟩ := c.m.def_ 29 (d := d_SexpLoose_take) rfl
  obtain ⟨fd__law_taken, F__law_taken⟩ := c.m.def_ 30 (d := d__law_taken) rfl
  obtain ⟨fd_Nest___init__, F_Nest___init__⟩ := c.m.def_ 31 (d := d_Nest___init__) rfl
  obtain ⟨fd_SexpScanner___init__, F_SexpScanner___init__⟩ := c.m.def_ 32 (d := d_SexpScanner___init__) rfl
  obtain ⟨fd_Counted__take_in_count, F_Counted__take_in_count⟩ := c.m.def_ 33 (d := d_Counted__take_in_count) rfl
  obtain ⟨fd_Counted_take, F_Counted_take⟩ := c.m.def_ 34 (d := d_Counted_take) rfl
  obtain ⟨fd_SexpToken_take, F_SexpToken_take⟩ := c.m.def_ 35 (d := d_SexpToken_take) rfl
  obtain ⟨fd_hex_worth, F_hex_worth⟩ := c.m.def_ 36 (d := d_hex_worth) rfl
  obtain ⟨fd_SexpHex__take_digit, F_SexpHex__take_digit⟩ := c.m.def_ 37 (d := d_SexpHex__take_digit) rfl
  obtain ⟨fd_SexpHex_take, F_SexpHex_take⟩ := c.m.def_ 38 (d := d_SexpHex_take) rfl
  obtain ⟨fd_Base64_is_whole, F_Base64_is_whole⟩ := c.m.def_ 39 (d := d_Base64_is_whole) rfl
  obtain ⟨fd__worth_of, F__worth_of⟩ := c.m.def_ 40 (d := d__worth_of) rfl
  obtain ⟨fd_Base64__take_pad, F_Base64__take_pad⟩ := c.m.def_ 41 (d := d_Base64__take_pad) rfl
  obtain ⟨fd_Base64__take_digit, F_Base64__take_digit⟩ := c.m.def_ 42 (d := d_Base64__take_digit) rfl
  obtain ⟨fd_Base64_take, F_Base64_take⟩ := c.m.def_ 43 (d := d_Base64_take) rfl
  obtain ⟨fd_SexpBase64_take, F_SexpBase64_take⟩ := c.m.def_ 44 (d := d_SexpBase64_take) rfl
  obtain ⟨fd_SexpEscape___init__, F_SexpEscape___init__⟩ := c.m.def_ 45 (d := d_SexpEscape___init__) rfl
  obtain ⟨fd_SexpEscape__take_digit, F_SexpEscape__take_digit⟩ := c.m.def_ 46 (d := d_SexpEscape__take_digit) rfl
  obtain ⟨fd_SexpEscape__take_first, F_SexpEscape__take_first⟩ := c.m.def_ 47 (d := d_SexpEscape__take_first) rfl
  obtain ⟨fd_SexpEscape_take, F_SexpEscape_take⟩ := c.m.def_ 48 (d := d_SexpEscape_take) rfl
  obtain ⟨fd_SexpQuoted__take_in_escape, F_SexpQuoted__take_in_escape⟩ := c.m.def_ 49 (d := d_SexpQuoted__take_in_escape) rfl
  obtain ⟨fd_SexpQuoted_take, F_SexpQuoted_take⟩ := c.m.def_ 50 (d := d_SexpQuoted_take) rfl
  obtain ⟨fd_Counted_leaf, F_Counted_leaf⟩ := c.m.def_ 51 (d := d_Counted_leaf) rfl
  obtain ⟨fd_SexpToken_leaf, F_SexpToken_leaf⟩ := c.m.def_ 52 (d := d_SexpToken_leaf) rfl
  obtain ⟨fd_SexpHex_leaf, F_SexpHex_leaf⟩ := c.m.def_ 53 (d := d_SexpHex_leaf) rfl
  obtain ⟨fd_SexpBase64_leaf, F_SexpBase64_leaf⟩ := c.m.def_ 54 (d := d_SexpBase64_leaf) rfl
  obtain ⟨fd_SexpQuoted_leaf, F_SexpQuoted_leaf⟩ := c.m.def_ 55 (d := d_SexpQuoted_leaf) rfl
  obtain ⟨fd_Nest_inner, F_Nest_inner⟩ := c.m.def_ 56 (d := d_Nest_inner) rfl
  obtain ⟨fd_SexpScanner__end_value, F_SexpScanner__end_value⟩ := c.m.def_ 57 (d := d_SexpScanner__end_value) rfl
  obtain ⟨fd_SexpScanner__end_atom, F_SexpScanner__end_atom⟩ := c.m.def_ 58 (d := d_SexpScanner__end_atom) rfl
  obtain ⟨fd_SexpScanner__go_on, F_SexpScanner__go_on⟩ := c.m.def_ 59 (d := d_SexpScanner__go_on) rfl
  obtain ⟨fd_Nest_grow, F_Nest_grow⟩ := c.m.def_ 60 (d := d_Nest_grow) rfl
  obtain ⟨fd_Counted___init__, F_Counted___init__⟩ := c.m.def_ 61 (d := d_Counted___init__) rfl
  obtain ⟨fd_SexpToken___init__, F_SexpToken___init__⟩ := c.m.def_ 62 (d := d_SexpToken___init__) rfl
  obtain ⟨fd_SexpHex___init__, F_SexpHex___init__⟩ := c.m.def_ 63 (d := d_SexpHex___init__) rfl
  obtain ⟨fd_Base64___init__, F_Base64___init__⟩ := c.m.def_ 64 (d := d_Base64___init__) rfl
  obtain ⟨fd_SexpBase64___init__, F_SexpBase64___init__⟩ := c.m.def_ 65 (d := d_SexpBase64___init__) rfl
  obtain ⟨fd_SexpQuoted___init__, F_SexpQuoted___init__⟩ := c.m.def_ 66 (d := d_SexpQuoted___init__) rfl
  obtain ⟨fd__atom_of, F__atom_of⟩ := c.m.def_ 67 (d := d__atom_of) rfl
  obtain ⟨fd_Nest_shrink, F_Nest_shrink⟩ := c.m.def_ 68 (d := d_Nest_shrink) rfl
  obtain ⟨fd_SexpScanner__close, F_SexpScanner__close⟩ := c.m.def_ 69 (d := d_SexpScanner__close) rfl
  obtain ⟨fd_SexpScanner__take_mark, F_SexpScanner__take_mark⟩ := c.m.def_ 70 (d := d_SexpScanner__take_mark) rfl
  obtain ⟨fd_SexpScanner_step, F_SexpScanner_step⟩ := c.m.def_ 71 (d := d_SexpScanner_step) rfl
  obtain ⟨fd_SexpScanner_end, F_SexpScanner_end⟩ := c.m.def_ 72 (d := d_SexpScanner_end) rfl
  obtain ⟨fd_Builder___init__, F_Builder___init__⟩ := c.m.def_ 73 (d := d_Builder___init__) rfl
  obtain ⟨fd_Frame___init__, F_Frame___init__⟩ := c.m.def_ 74 (d := d_Frame___init__) rfl
  obtain ⟨fd_list_of, F_list_of⟩ := c.m.def_ 75 (d := d_list_of) rfl
  obtain ⟨fd_map_of, F_map_of⟩ := c.m.def_ 76 (d := d_map_of) rfl
  obtain ⟨fd_Frame_built, F_Frame_built⟩ := c.m.def_ 77 (d := d_Frame_built) rfl
  obtain ⟨fd_Frame_put, F_Frame_put⟩ := c.m.def_ 78 (d := d_Frame_put) rfl
  obtain ⟨fd_Builder__put, F_Builder__put⟩ := c.m.def_ 79 (d := d_Builder__put) rfl
  obtain ⟨fd_Builder_take, F_Builder_take⟩ := c.m.def_ 80 (d := d_Builder_take) rfl
  obtain ⟨fd__take_all, F__take_all⟩ := c.m.def_ 81 (d := d__take_all) rfl
  obtain ⟨fd_value_of_text, F_value_of_text⟩ := c.m.def_ 82 (d := d_value_of_text) rfl
  obtain ⟨fd_read_sexp, F_read_sexp⟩ := c.m.def_ 83 (d := d_read_sexp) rfl
  obtain ⟨fd__law_read, F__law_read⟩ := c.m.def_ 84 (d := d__law_read) rfl
  obtain ⟨fd__law_lacks, F__law_lacks⟩ := c.m.def_ 85 (d := d__law_lacks) rfl
  obtain ⟨fd__law_ascii, F__law_ascii⟩ := c.m.def_ 86 (d := d__law_ascii) rfl
  obtain ⟨fd__law_letter, F__law_letter⟩ := c.m.def_ 87 (d := d__law_letter) rfl
  obtain ⟨fd__law_in_token, F__law_in_token⟩ := c.m.def_ 88 (d := d__law_in_token) rfl
  obtain ⟨fd__law_is_token, F__law_is_token⟩ := c.m.def_ 89 (d := d__law_is_token) rfl
  obtain ⟨fd__law_atom, F__law_atom⟩ := c.m.def_ 90 (d := d__law_atom) rfl
  obtain ⟨fd__law_loosely, F__law_loosely⟩ := c.m.def_ 91 (d := d__law_loosely) rfl
  obtain ⟨fd_law, F_law⟩ := c.m.def_ 92 (d := d_law) rfl
  have m__law_cell := He.glo_ok X G (x := "_law_cell") (c.m.fact 0 rfl)
  have m__law_numbers := He.glo_ok X G (x := "_law_numbers") (c.m.fact 1 rfl)
  have m__law_state := He.glo_ok X G (x := "_law_state") (c.m.fact 2 rfl)
  have m__law_next := He.glo_ok X G (x := "_law_next") (c.m.fact 3 rfl)
  have m__law_many := He.glo_ok X G (x := "_law_many") (c.m.fact 4 rfl)
  have m__law_points := He.glo_ok X G (x := "_law_points") (c.m.fact 5 rfl)
  have m__law_octets := He.glo_ok X G (x := "_law_octets") (c.m.fact 6 rfl)
  have m__law_leaf := He.glo_ok X G (x := "_law_leaf") (c.m.fact 7 rfl)
  have m__law_value := He.glo_ok X G (x := "_law_value") (c.m.fact 8 rfl)
  have m__law_towered := He.glo_ok X G (x := "_law_towered") (c.m.fact 9 rfl)
  have m__law_same := He.glo_ok X G (x := "_law_same") (c.m.fact 10 rfl)
  have m__law_mixed := He.glo_ok X G (x := "_law_mixed") (c.m.fact 11 rfl)
  have m__law_events := He.glo_ok X G (x := "_law_events") (c.m.fact 12 rfl)
  have m_is_lacking := He.glo_ok X G (x := "is_lacking") (c.m.fact 13 rfl)
  have m_begins_token := He.glo_ok X G (x := "begins_token") (c.m.fact 14 rfl)
  have m_is_digit := He.glo_ok X G (x := "is_digit") (c.m.fact 15 rfl)
  have m_goes_on_token := He.glo_ok X G (x := "goes_on_token") (c.m.fact 16 rfl)
  have m__can_be_token := He.glo_ok X G (x := "_can_be_token") (c.m.fact 17 rfl)
  have m__quoted := He.glo_ok X G (x := "_quoted") (c.m.fact 18 rfl)
  have m_in_ascii := He.glo_ok X G (x := "in_ascii") (c.m.fact 19 rfl)
  have m_hex_digits := He.glo_ok X G (x := "hex_digits") (c.m.fact 20 rfl)
  have m__hexadecimal := He.glo_ok X G (x := "_hexadecimal") (c.m.fact 21 rfl)
  have m_loose_octets := He.glo_ok X G (x := "loose_octets") (c.m.fact 22 rfl)
  have m__law_taken := He.glo_ok X G (x := "_law_taken") (c.m.fact 23 rfl)
  have m_hex_worth := He.glo_ok X G (x := "hex_worth") (c.m.fact 24 rfl)
  have m__worth_of := He.glo_ok X G (x := "_worth_of") (c.m.fact 25 rfl)
  have m__atom_of := He.glo_ok X G (x := "_atom_of") (c.m.fact 26 rfl)
  have m_list_of := He.glo_ok X G (x := "list_of") (c.m.fact 27 rfl)
  have m_map_of := He.glo_ok X G (x := "map_of") (c.m.fact 28 rfl)
  have m__take_all := He.glo_ok X G (x := "_take_all") (c.m.fact 29 rfl)
  have m_value_of_text := He.glo_ok X G (x := "value_of_text") (c.m.fact 30 rfl)
  have m_read_sexp := He.glo_ok X G (x := "read_sexp") (c.m.fact 31 rfl)
  have m__law_read := He.glo_ok X G (x := "_law_read") (c.m.fact 32 rfl)
  have m__law_lacks := He.glo_ok X G (x := "_law_lacks") (c.m.fact 33 rfl)
  have m__law_ascii := He.glo_ok X G (x := "_law_ascii") (c.m.fact 34 rfl)
  have m__law_letter := He.glo_ok X G (x := "_law_letter") (c.m.fact 35 rfl)
  have m__law_in_token := He.glo_ok X G (x := "_law_in_token") (c.m.fact 36 rfl)
  have m__law_is_token := He.glo_ok X G (x := "_law_is_token") (c.m.fact 37 rfl)
  have m__law_atom := He.glo_ok X G (x := "_law_atom") (c.m.fact 38 rfl)
  have m__law_loosely := He.glo_ok X G (x := "_law_loosely") (c.m.fact 39 rfl)
  have m_law := He.glo_ok X G (x := "law") (c.m.fact 40 rfl)
  have xx : ex K = true := c.m.more
  have x0 := (both xx).1
  replace xx := (both xx).2
  have x1 := (both xx).1
  replace xx := (both xx).2
  have x2 := (both xx).1
  replace xx := (both xx).2
  have x3 := (both xx).1
  replace xx := (both xx).2
  have x4 := (both xx).1
  replace xx := (both xx).2
  have x5 := (both xx).1
  replace xx := (both xx).2
  have x6 := (both xx).1
  replace xx := (both xx).2
  have x7 := (both xx).1
  replace xx := (both xx).2
  have x8 := (both xx).1
  replace xx := (both xx).2
  have x9 := (both xx).1
  replace xx := (both xx).2
  have x10 := (both xx).1
  replace xx := (both xx).2
  have x11 := (both xx).1
  replace xx := (both xx).2
  have x12 := (both xx).1
  replace xx := (both xx).2
  have x13 := (both xx).1
  replace xx := (both xx).2
  have x14 := xx
  have nb : Nm w K mg := ⟨He.free_ok X G (c.m.fact 41 rfl),
    He.free_ok X G (c.m.fact 42 rfl),
    He.free_ok X G (c.m.fact 43 rfl),
    He.free_ok X G (c.m.fact 44 rfl),
    He.free_ok X G (c.m.fact 45 rfl),
    He.free_ok X G (c.m.fact 46 rfl),
    He.free_ok X G (c.m.fact 47 rfl),
    He.free_ok X G (c.m.fact 48 rfl),
    He.free_ok X G (c.m.fact 49 rfl),
    He.free_ok X G (c.m.fact 50 rfl),
    He.free_ok X G (c.m.fact 51 rfl),
    He.free_ok X G (c.m.fact 52 rfl),
    He.free_ok X G (c.m.fact 53 rfl),
    conI X G (c.m.fact 54 rfl),
    conI X G (c.m.fact 55 rfl),
    conI X G (c.m.fact 56 rfl),
    conM X G x0,
    conI X G (c.m.fact 57 rfl),
    conM X G x1,
    conM X G x2,
    conI X G (c.m.fact 58 rfl),
    conI X G (c.m.fact 59 rfl),
    conI X G (c.m.fact 60 rfl),
    conI X G (c.m.fact 61 rfl),
    conI X G (c.m.fact 62 rfl),
    conI X G (c.m.fact 63 rfl),
    conI X G (c.m.fact 64 rfl),
    conI X G (c.m.fact 65 rfl),
    conI X G (c.m.fact 66 rfl),
    conI X G (c.m.fact 67 rfl),
    conI X G (c.m.fact 68 rfl),
    ⟨.ref _, _, He.glo_ok X G (c.m.fact 69 rfl), rfl, _, rfl, tab_ok (c.tab 0 rfl) x14 (by decide +kernel)⟩,
    conI X G (c.m.fact 70 rfl),
    He.glo_ok X G (c.m.fact 71 rfl),
    exkM x3,
    He.glo_ok X G (c.m.fact 72 rfl),
    exkM x4,
    He.glo_ok X G (c.m.fact 73 rfl),
    exkM x5,
    He.glo_ok X G (c.m.fact 74 rfl),
    exkM x6,
    isxM x7,
    of_decide_eq_true x8,
    of_decide_eq_true x9,
    of_decide_eq_true x10,
    of_decide_eq_true x11,
    He.glo_ok X G (c.m.fact 75 rfl),
    He.cls_ok (c.m.fact 76 rfl),
    He.glo_ok X G (c.m.fact 77 rfl),
    He.mkr_ok (c.m.fact 78 rfl),
    He.noat_ok (c.m.fact 79 rfl),
    He.meth_ok (c.m.fact 80 rfl),
    He.meth_ok (c.m.fact 81 rfl),
    He.cls_ok (c.m.fact 82 rfl),
    He.glo_ok X G (c.m.fact 83 rfl),
    He.mkr_ok (c.m.fact 84 rfl),
    He.noat_ok (c.m.fact 85 rfl),
    He.noat_ok (c.m.fact 86 rfl),
    He.noat_ok (c.m.fact 87 rfl),
    He.noat_ok (c.m.fact 88 rfl),
    He.noat_ok (c.m.fact 89 rfl),
    He.meth_ok (c.m.fact 90 rfl),
    He.meth_ok (c.m.fact 91 rfl),
    He.meth_ok (c.m.fact 92 rfl),
    He.cls_ok (c.m.fact 93 rfl),
    He.glo_ok X G (c.m.fact 94 rfl),
    He.mkr_ok (c.m.fact 95 rfl),
    He.noat_ok (c.m.fact 96 rfl),
    He.noat_ok (c.m.fact 97 rfl),
    He.noat_ok (c.m.fact 98 rfl),
    He.noat_ok (c.m.fact 99 rfl),
    prM x12,
    He.meth_ok (c.m.fact 100 rfl),
    He.meth_ok (c.m.fact 101 rfl),
    He.meth_ok (c.m.fact 102 rfl),
    He.cls_ok (c.m.fact 103 rfl),
    He.glo_ok X G (c.m.fact 104 rfl),
    He.mkr_ok (c.m.fact 105 rfl),
    He.noat_ok (c.m.fact 106 rfl),
    He.noat_ok (c.m.fact 107 rfl),
    He.noat_ok (c.m.fact 108 rfl),
    He.meth_ok (c.m.fact 109 rfl),
    He.meth_ok (c.m.fact 110 rfl),
    He.cls_ok (c.m.fact 111 rfl),
    He.glo_ok X G (c.m.fact 112 rfl),
    He.mkr_ok (c.m.fact 113 rfl),
    He.noat_ok (c.m.fact 114 rfl),
    He.noat_ok (c.m.fact 115 rfl),
    He.noat_ok (c.m.fact 116 rfl),
    He.noat_ok (c.m.fact 117 rfl),
    He.meth_ok (c.m.fact 118 rfl),
    He.meth_ok (c.m.fact 119 rfl),
    He.meth_ok (c.m.fact 120 rfl),
    He.cls_ok (c.m.fact 121 rfl),
    He.glo_ok X G (c.m.fact 122 rfl),
    He.mkr_ok (c.m.fact 123 rfl),
    He.noat_ok (c.m.fact 124 rfl),
    He.noat_ok (c.m.fact 125 rfl),
    He.noat_ok (c.m.fact 126 rfl),
    He.meth_ok (c.m.fact 127 rfl),
    He.meth_ok (c.m.fact 128 rfl),
    He.cls_ok (c.m.fact 129 rfl),
    He.glo_ok X G (c.m.fact 130 rfl),
    He.mkr_ok (c.m.fact 131 rfl),
    He.noat_ok (c.m.fact 132 rfl),
    He.noat_ok (c.m.fact 133 rfl),
    He.meth_ok (c.m.fact 134 rfl),
    He.meth_ok (c.m.fact 135 rfl),
    He.cls_ok (c.m.fact 136 rfl),
    He.glo_ok X G (c.m.fact 137 rfl),
    He.mkr_ok (c.m.fact 138 rfl),
    He.noat_ok (c.m.fact 139 rfl),
    He.meth_ok (c.m.fact 140 rfl),
    He.meth_ok (c.m.fact 141 rfl),
    He.meth_ok (c.m.fact 142 rfl),
    He.meth_ok (c.m.fact 143 rfl),
    He.cls_ok (c.m.fact 144 rfl),
    He.glo_ok X G (c.m.fact 145 rfl),
    He.mkr_ok (c.m.fact 146 rfl),
    He.noat_ok (c.m.fact 147 rfl),
    He.noat_ok (c.m.fact 148 rfl),
    He.noat_ok (c.m.fact 149 rfl),
    He.noat_ok (c.m.fact 150 rfl),
    He.noat_ok (c.m.fact 151 rfl),
    He.meth_ok (c.m.fact 152 rfl),
    He.meth_ok (c.m.fact 153 rfl),
    He.meth_ok (c.m.fact 154 rfl),
    He.cls_ok (c.m.fact 155 rfl),
    He.glo_ok X G (c.m.fact 156 rfl),
    He.mkr_ok (c.m.fact 157 rfl),
    He.noat_ok (c.m.fact 158 rfl),
    He.noat_ok (c.m.fact 159 rfl),
    He.noat_ok (c.m.fact 160 rfl),
    He.noat_ok (c.m.fact 161 rfl),
    He.meth_ok (c.m.fact 162 rfl),
    He.meth_ok (c.m.fact 163 rfl),
    He.meth_ok (c.m.fact 164 rfl),
    He.cls_ok (c.m.fact 165 rfl),
    He.glo_ok X G (c.m.fact 166 rfl),
    He.mkr_ok (c.m.fact 167 rfl),
    He.noat_ok (c.m.fact 168 rfl),
    He.noat_ok (c.m.fact 169 rfl),
    He.noat_ok (c.m.fact 170 rfl),
    He.noat_ok (c.m.fact 171 rfl),
    He.meth_ok (c.m.fact 172 rfl),
    He.meth_ok (c.m.fact 173 rfl),
    He.meth_ok (c.m.fact 174 rfl),
    He.meth_ok (c.m.fact 175 rfl),
    He.meth_ok (c.m.fact 176 rfl),
    He.meth_ok (c.m.fact 177 rfl),
    He.meth_ok (c.m.fact 178 rfl),
    He.cls_ok (c.m.fact 179 rfl),
    He.glo_ok X G (c.m.fact 180 rfl),
    He.mkr_ok (c.m.fact 181 rfl),
    He.noat_ok (c.m.fact 182 rfl),
    He.noat_ok (c.m.fact 183 rfl),
    He.noat_ok (c.m.fact 184 rfl),
    He.meth_ok (c.m.fact 185 rfl),
    He.meth_ok (c.m.fact 186 rfl),
    He.cls_ok (c.m.fact 187 rfl),
    He.glo_ok X G (c.m.fact 188 rfl),
    He.mkr_ok (c.m.fact 189 rfl),
    He.noat_ok (c.m.fact 190 rfl),
    He.noat_ok (c.m.fact 191 rfl),
    He.noat_ok (c.m.fact 192 rfl),
    He.meth_ok (c.m.fact 193 rfl),
    He.meth_ok (c.m.fact 194 rfl),
    digK_ok x13⟩
  have e := hfa.symm.trans m_law
  cases e
  have b := FunD.bindsA (ps := ["script"]) F_law fun _ _ _ _ _ _ us hl => match us, hl with | [_], _ => rfl
  refine ⟨fd_law, fun s v => b s [v] rfl, fun base _ _ => ?_⟩
  have k_Begun := ok_Begun___init__ (P := P) (w := w) (base := base) F_Begun___init__ nb
  have k_SexpLoose := ok_SexpLoose___init__ (P := P) (w := w) (base := base) F_SexpLoose___init__ nb k_Begun
  have c__law_cell := ok__law_cell (P := P) (w := w) (base := base) F__law_cell m__law_cell nb
  have c__law_numbers := ok__law_numbers (P := P) (w := w) (base := base) F__law_numbers m__law_numbers nb
  have c__law_state := ok__law_state (P := P) (w := w) (base := base) F__law_state m__law_state nb c__law_cell c__law_numbers
  have c__law_next := ok__law_next (P := P) (w := w) (base := base) F__law_next m__law_next nb
  have c__law_many := ok__law_many (P := P) (w := w) (base := base) F__law_many m__law_many nb c__law_next
  have c__law_points := ok__law_points (P := P) (w := w) (base := base) F__law_points m__law_points nb c__law_next c__law_many
  have c__law_octets := ok__law_octets (P := P) (w := w) (base := base) F__law_octets m__law_octets nb c__law_next c__law_many
  have c__law_leaf := ok__law_leaf (P := P) (w := w) (base := base) F__law_leaf m__law_leaf nb c__law_next c__law_points c__law_octets
  have c__law_value := rec__law_value (P := P) (w := w) (base := base) F__law_value m__law_value nb c__law_next c__law_many c__law_points c__law_leaf 5
  have c__law_towered := ok__law_towered (P := P) (w := w) (base := base) F__law_towered m__law_towered nb c__law_next
  have c__law_same := rec__law_same (P := P) (w := w) (base := base) F__law_same m__law_same nb 90
  have c__law_mixed := ok__law_mixed (P := P) (w := w) (base := base) F__law_mixed m__law_mixed nb c__law_next
  have c__law_events := rec__law_events (P := P) (w := w) (base := base) F__law_events m__law_events nb c__law_mixed 30
  have z_Doubled : Raz P w K mg base "Doubled" (C_Doubled K) "what" := razM F_AlikeError___init__ sc_AlikeError___init__ nb.x_Doubled nb.g_Doubled (fun _ _ _ _ _ _ _ us its hu hi => match us, its, hu, hi with | [_, _], [_], _, _ => ⟨_, rfl, rfl⟩) (fun _ _ _ _ _ _ => pss_one (ps_ost (pv 0) (pv 1)))
  have z_Unwritable : Raz P w K mg base "Unwritable" (C_Unwritable K) "what" := razM F_AlikeError___init__ sc_AlikeError___init__ nb.x_Unwritable nb.g_Unwritable (fun _ _ _ _ _ _ _ us its hu hi => match us, its, hu, hi with | [_, _], [_], _, _ => ⟨_, rfl, rfl⟩) (fun _ _ _ _ _ _ => pss_one (ps_ost (pv 0) (pv 1)))
  have z_Unreadable : Raz P w K mg base "Unreadable" (C_Unreadable K) "what" := razM F_AlikeError___init__ sc_AlikeError___init__ nb.x_Unreadable nb.g_Unreadable (fun _ _ _ _ _ _ _ us its hu hi => match us, its, hu, hi with | [_, _], [_], _, _ => ⟨_, rfl, rfl⟩) (fun _ _ _ _ _ _ => pss_one (ps_ost (pv 0) (pv 1)))
  have z_AlikeError : Raz P w K mg base "AlikeError" (C_AlikeError K) "what" := razM F_AlikeError___init__ sc_AlikeError___init__ nb.x_AlikeError nb.g_AlikeError (fun _ _ _ _ _ _ _ us its hu hi => match us, its, hu, hi with | [_, _], [_], _, _ => ⟨_, rfl, rfl⟩) (fun _ _ _ _ _ _ => pss_one (ps_ost (pv 0) (pv 1)))
  have c_is_lacking := ok_is_lacking (P := P) (w := w) (base := base) F_is_lacking m_is_lacking nb
  have m_Begun__count := ok_Begun__count (P := P) (w := w) (base := base) F_Begun__count nb z_Unwritable c_is_lacking
  have m_Begun_note := ok_Begun_note (P := P) (w := w) (base := base) F_Begun_note nb m_Begun__count
  have c_begins_token := ok_begins_token (P := P) (w := w) (base := base) F_begins_token m_begins_token nb
  have c_is_digit := ok_is_digit (P := P) (w := w) (base := base) F_is_digit m_is_digit nb
  have c_goes_on_token := ok_goes_on_token (P := P) (w := w) (base := base) F_goes_on_token m_goes_on_token nb c_is_digit c_begins_token
  have c__can_be_token := ok__can_be_token (P := P) (w := w) (base := base) F__can_be_token m__can_be_token nb c_begins_token c_goes_on_token
  have c__quoted := ok__quoted (P := P) (w := w) (base := base) F__quoted m__quoted nb
  have c_in_ascii := ok_in_ascii (P := P) (w := w) (base := base) F_in_ascii m_in_ascii nb
  have c_hex_digits := ok_hex_digits (P := P) (w := w) (base := base) F_hex_digits m_hex_digits nb c_in_ascii
  have c__hexadecimal := ok__hexadecimal (P := P) (w := w) (base := base) F__hexadecimal m__hexadecimal nb c_hex_digits
  have c_loose_octets := ok_loose_octets (P := P) (w := w) (base := base) F_loose_octets m_loose_octets nb c__can_be_token c__quoted c__hexadecimal
  have m_SexpLoose__before_item := ok_SexpLoose__before_item (P := P) (w := w) (base := base) F_SexpLoose__before_item nb
  have m_SexpLoose_take := ok_SexpLoose_take (P := P) (w := w) (base := base) F_SexpLoose_take nb m_Begun_note c_loose_octets m_SexpLoose__before_item
  have c__law_taken := ok__law_taken (P := P) (w := w) (base := base) F__law_taken m__law_taken nb z_AlikeError m_SexpLoose_take
  have k_Nest := ok_Nest___init__ (P := P) (w := w) (base := base) F_Nest___init__ nb
  have k_SexpScanner := ok_SexpScanner___init__ (P := P) (w := w) (base := base) F_SexpScanner___init__ nb k_Nest
  have m_Counted__take_in_count := ok_Counted__take_in_count (P := P) (w := w) (base := base) F_Counted__take_in_count nb c_is_digit
  have m_Counted_take := ok_Counted_take (P := P) (w := w) (base := base) F_Counted_take nb m_Counted__take_in_count
  have m_SexpToken_take := ok_SexpToken_take (P := P) (w := w) (base := base) F_SexpToken_take nb c_goes_on_token
  have c_hex_worth := ok_hex_worth (P := P) (w := w) (base := base) F_hex_worth m_hex_worth nb
  have m_SexpHex__take_digit := ok_SexpHex__take_digit (P := P) (w := w) (base := base) F_SexpHex__take_digit nb
  have m_SexpHex_take := ok_SexpHex_take (P := P) (w := w) (base := base) F_SexpHex_take nb c_hex_worth m_SexpHex__take_digit
  have p_Base64_is_whole := ok_Base64_is_whole (P := P) (w := w) (base := base) F_Base64_is_whole nb
  have c__worth_of := ok__worth_of (P := P) (w := w) (base := base) F__worth_of m__worth_of nb
  have m_Base64__take_pad := ok_Base64__take_pad (P := P) (w := w) (base := base) F_Base64__take_pad nb
  have m_Base64__take_digit := ok_Base64__take_digit (P := P) (w := w) (base := base) F_Base64__take_digit nb
  have m_Base64_take := ok_Base64_take (P := P) (w := w) (base := base) F_Base64_take nb c__worth_of m_Base64__take_pad m_Base64__take_digit
  have m_SexpBase64_take := ok_SexpBase64_take (P := P) (w := w) (base := base) F_SexpBase64_take nb p_Base64_is_whole m_Base64_take
  have k_SexpEscape := ok_SexpEscape___init__ (P := P) (w := w) (base := base) F_SexpEscape___init__ nb
  have m_SexpEscape__take_digit := ok_SexpEscape__take_digit (P := P) (w := w) (base := base) F_SexpEscape__take_digit nb
  have m_SexpEscape__take_first := ok_SexpEscape__take_first (P := P) (w := w) (base := base) F_SexpEscape__take_first nb m_SexpEscape__take_digit
  have m_SexpEscape_take := ok_SexpEscape_take (P := P) (w := w) (base := base) F_SexpEscape_take nb c_hex_worth m_SexpEscape__take_first m_SexpEscape__take_digit
  have m_SexpQuoted__take_in_escape := ok_SexpQuoted__take_in_escape (P := P) (w := w) (base := base) F_SexpQuoted__take_in_escape nb m_SexpEscape_take
  have m_SexpQuoted_take := ok_SexpQuoted_take (P := P) (w := w) (base := base) F_SexpQuoted_take nb k_SexpEscape m_SexpQuoted__take_in_escape
  have m_Counted_leaf := ok_Counted_leaf (P := P) (w := w) (base := base) F_Counted_leaf nb
  have m_SexpToken_leaf := ok_SexpToken_leaf (P := P) (w := w) (base := base) F_SexpToken_leaf nb
  have m_SexpHex_leaf := ok_SexpHex_leaf (P := P) (w := w) (base := base) F_SexpHex_leaf nb
  have m_SexpBase64_leaf := ok_SexpBase64_leaf (P := P) (w := w) (base := base) F_SexpBase64_leaf nb
  have m_SexpQuoted_leaf := ok_SexpQuoted_leaf (P := P) (w := w) (base := base) F_SexpQuoted_leaf nb
  have m_Nest_inner := ok_Nest_inner (P := P) (w := w) (base := base) F_Nest_inner nb
  have m_SexpScanner__end_value := ok_SexpScanner__end_value (P := P) (w := w) (base := base) F_SexpScanner__end_value nb m_Nest_inner
  have m_SexpScanner__end_atom := ok_SexpScanner__end_atom (P := P) (w := w) (base := base) F_SexpScanner__end_atom nb m_Counted_leaf m_SexpToken_leaf m_SexpHex_leaf m_SexpBase64_leaf m_SexpQuoted_leaf m_SexpScanner__end_value
  have m_SexpScanner__go_on := ok_SexpScanner__go_on (P := P) (w := w) (base := base) F_SexpScanner__go_on nb m_Counted_take m_SexpToken_take m_SexpHex_take m_SexpBase64_take m_SexpQuoted_take m_SexpScanner__end_atom
  have m_Nest_grow := ok_Nest_grow (P := P) (w := w) (base := base) F_Nest_grow nb
  have k_Counted := ok_Counted___init__ (P := P) (w := w) (base := base) F_Counted___init__ nb
  have k_SexpToken := ok_SexpToken___init__ (P := P) (w := w) (base := base) F_SexpToken___init__ nb
  have k_SexpHex := ok_SexpHex___init__ (P := P) (w := w) (base := base) F_SexpHex___init__ nb
  have k_Base64 := ok_Base64___init__ (P := P) (w := w) (base := base) F_Base64___init__ nb
  have k_SexpBase64 := ok_SexpBase64___init__ (P := P) (w := w) (base := base) F_SexpBase64___init__ nb k_Base64
  have k_SexpQuoted := ok_SexpQuoted___init__ (P := P) (w := w) (base := base) F_SexpQuoted___init__ nb
  have c__atom_of := ok__atom_of (P := P) (w := w) (base := base) F__atom_of m__atom_of nb c_is_digit k_Counted m_Counted_take c_begins_token k_SexpToken m_SexpToken_take k_SexpHex k_SexpBase64 k_SexpQuoted
  have m_Nest_shrink := ok_Nest_shrink (P := P) (w := w) (base := base) F_Nest_shrink nb
  have m_SexpScanner__close := ok_SexpScanner__close (P := P) (w := w) (base := base) F_SexpScanner__close nb m_Nest_inner m_Nest_shrink m_SexpScanner__end_value
  have m_SexpScanner__take_mark := ok_SexpScanner__take_mark (P := P) (w := w) (base := base) F_SexpScanner__take_mark nb m_Nest_grow c__atom_of m_SexpScanner__close
  have m_SexpScanner_step := ok_SexpScanner_step (P := P) (w := w) (base := base) F_SexpScanner_step nb m_SexpScanner__go_on m_SexpScanner__take_mark
  have m_SexpScanner_end := ok_SexpScanner_end (P := P) (w := w) (base := base) F_SexpScanner_end nb m_SexpScanner__end_atom
  have k_Builder := ok_Builder___init__ (P := P) (w := w) (base := base) F_Builder___init__ nb
  have k_Frame := ok_Frame___init__ (P := P) (w := w) (base := base) F_Frame___init__ nb
  have c_list_of := ok_list_of (P := P) (w := w) (base := base) F_list_of m_list_of nb
  have c_map_of := ok_map_of (P := P) (w := w) (base := base) F_map_of m_map_of nb
  have m_Frame_built := ok_Frame_built (P := P) (w := w) (base := base) F_Frame_built nb c_list_of c_map_of
  have m_Frame_put := ok_Frame_put (P := P) (w := w) (base := base) F_Frame_put nb
  have m_Builder__put := ok_Builder__put (P := P) (w := w) (base := base) F_Builder__put nb m_Frame_put
  have m_Builder_take := ok_Builder_take (P := P) (w := w) (base := base) F_Builder_take nb k_Frame m_Frame_built m_Builder__put
  have c__take_all := ok__take_all (P := P) (w := w) (base := base) F__take_all m__take_all nb m_Builder_take
  have c_value_of_text := ok_value_of_text (P := P) (w := w) (base := base) F_value_of_text m_value_of_text nb m_SexpScanner_step m_SexpScanner_end k_Builder c__take_all
  have c_read_sexp := ok_read_sexp (P := P) (w := w) (base := base) F_read_sexp m_read_sexp nb k_SexpScanner c_value_of_text
  have c__law_read := ok__law_read (P := P) (w := w) (base := base) F__law_read m__law_read nb c_read_sexp
  have c__law_lacks := ok__law_lacks (P := P) (w := w) (base := base) F__law_lacks m__law_lacks nb
  have c__law_ascii := ok__law_ascii (P := P) (w := w) (base := base) F__law_ascii m__law_ascii nb
  have c__law_letter := ok__law_letter (P := P) (w := w) (base := base) F__law_letter m__law_letter nb c__law_ascii
  have c__law_in_token := ok__law_in_token (P := P) (w := w) (base := base) F__law_in_token m__law_in_token nb c__law_letter
  have c__law_is_token := ok__law_is_token (P := P) (w := w) (base := base) F__law_is_token m__law_is_token nb c__law_letter c__law_in_token
  have c__law_atom := ok__law_atom (P := P) (w := w) (base := base) F__law_atom m__law_atom nb c__law_is_token
  have c__law_loosely := ok__law_loosely (P := P) (w := w) (base := base) F__law_loosely m__law_loosely nb c__law_atom
  exact ok_law F_law nb k_SexpLoose c__law_cell c__law_state c__law_next c__law_value c__law_towered c__law_same c__law_events c__law_taken c__law_read c__law_lacks c__law_loosely
end Fa
open PySem PySem.W PySem.Calls PyProof.Rows
theorem PySem.Challenge.cw_formsalike_k48_sexp_loose_holds : PySem.Challenge.rw_formsalike_k48_sexp_loose.Holds := by
  w_on; o_law
  refine HandSHeadRun.head_any (r := OpenLaw.row PySem.Challenge.rw_formsalike_k48_sexp_loose) (q := view (OpenLaw.row PySem.Challenge.rw_formsalike_k48_sexp_loose).prog [94]) (H := Fa.hk) (ob := Fa.ob) (M := 9000) (loose := Fa.loose) (d := HandSHeadRun.topDef (OpenLaw.row PySem.Challenge.rw_formsalike_k48_sexp_loose).prog 94) (kwd := []) Fa.ob_eq
    (by kernel_rfl) (fun s => by kernel_rfl) Fa.run (by kernel_rfl) (by kernel_rfl) (by kernel_rfl) (by rfl) (by first | assumption | decide +kernel) (by decide +kernel) ⟨rfl, rfl, rfl, rfl, rfl, by decide +kernel⟩ ?hw ?hc
  case hw => w_witness2
  case hc =>
    refine L2.walk_ofE (l := PySem.Challenge.rw_formsalike_k48_sexp_loose) (n := 63) (k := 92) (x := "script") (CX := L2.CX0) rfl (by decide) (by kernel_rfl) ⟨rfl, by decide, by decide⟩ ?F (fun _ _ _ _ z => z)
    intro w mg fa h Y G hmg0
    obtain ⟨K, KX, c⟩ := Y
    have hmg : mg ("law" : PySem.Str) = some (.ref fa) := by
      have e : (HandSHeadRun.topDef (OpenLaw.row PySem.Challenge.rw_formsalike_k48_sexp_loose).prog 94).name = ("law" : PySem.Str) := by kernel_rfl
      rw [← e]
      exact hmg0
    obtain ⟨fd, hb, hF⟩ := Fa.facts (P := (PySem.Challenge.rw_formsalike_k48_sexp_loose).prog) (w := w) KX G hmg c
    exact ⟨K, fd, Fa.sp_law K, KX, hb, fun H a ns hl _ hS => ⟨_, rfl, a, ns, rfl, hS, fun _ => rfl⟩, hF⟩
