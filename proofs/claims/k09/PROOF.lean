import PyProof.Rows.All
import Wide.All
import OpenK.AllK
import Wide.FinOn
import KE.KStateDown
import KE.GoesMore
import KE.GoesEnum
import HandS.Iter
import HandS.TupLe
import HandS.Deep
import KE.KEqSeq
import KE.KEqDeep
import HandS.ForMost
import HandS.Exc
import HandS.More
import HandS.Wide
import HandS.Property
import HandS.WideBits
import HandS.Conv
import HandS.Codes
import HandS.IsInst
import HandS.Flow
import HandS.Defaults
import HandS.EndBits
import HandS.Head0
import HandS.Head1
import HandS.Head2
import KE.KExcIs
import KE.SortData
import HandS.GenList
import HandS.TryOnly
import HandS.Lambda
import HandS.StrMore
import HandS.RevTup
import HandS.Rev
import KE.KIntText
import PyProof.Rows.StrFirst
import HandS.CallLocal
import HandS.AnyAll
import HandS.HeadEnd
import HandS.HeadHook1
import HandS.HeadHook2
import HandS.NoneIn
import HandS.TupAny
import HandS.Style
import HandS.SortRule
import HandS.DictTup
import HandS.TupLe
import HandS.Deep
import PySem.Challenge.RW_formsalike_k09_orders
import KE.SortKeyHeap
import HandS.EndTab
import HandS.HeadHook4
import HandS.HeadWalk
import HandS.ExcOwn
import HandS.ExcInit
import HandS.ExcField
import HandS.WordsExc
set_option Elab.async false
set_option linter.all false
set_option maxRecDepth 100000
set_option maxHeartbeats 4000000
namespace Fa
open PySem PySem.Spec L2 SX
open PyProof.Rows (envOfC)
open C8 (Cal pe_c Mak pe_mk Met pe_mt pe_mt0 pe_gc tCut pss_cut)
def top (i : Nat) : Stmt := PySem.Challenge.pw_formsalike_k09_orders.main.body.getD i (.Pass ⟨0, 0, 0, 0⟩)

/-! ### readings, a step each -/
section
variable {σ : St} {H : Hp} {n b c : St → Hp → Prop} {r : VK} {Q : VK} {K : PySem.W.Frag}
theorem r_seq {t u : TS} (h : t ⟨u ⟨n, r, b, c⟩, r, b, c⟩ σ H) : tSeq t u ⟨n, r, b, c⟩ σ H := h
theorem r_asg {te : TE} {g : TG} (h : te σ H fun x H1 => g x σ H1 n) : tAsg te g ⟨n, r, b, c⟩ σ H := h
theorem r_name {i : Nat} {v : V} {R : St → Hp → Prop} (h : R (σ.set i (some v)) H) : gName i v σ H R := h
theorem r_var {i : Nat} {v : V} (e : σ[i]? = some (some v)) (h : Q v H) : tVar i σ H Q := ⟨v, e, h⟩
theorem r_c {v : V} (h : Q v H) : tC v σ H Q := h
theorem r_op {r : R2} {ta tb : TE} (h : ta σ H fun x H1 => tb σ H1 fun y H2 => r x y H2 Q) : tOp r ta tb σ H Q := h
theorem r_un {r : V → Hp → VK → Prop} {ta : TE} (h : ta σ H fun x H1 => r x H1 Q) : tUn r ta σ H Q := h
theorem r_I0 {g : Int → Int → V} {i j : Int} (h : Q (g i j) H) : rI0 g (.int i) (.int j) H Q := ⟨i, j, rfl, rfl, h⟩
theorem r_I {C : Int → Int → Prop} {g : Int → Int → V} {i j : Int} (c : C i j) (h : Q (g i j) H) : rI C g (.int i) (.int j) H Q := ⟨i, j, rfl, rfl, c, h⟩
theorem r_U {g : Int → V} {i : Int} (h : Q (g i) H) : rU g (.int i) H Q := ⟨i, rfl, h⟩
theorem r_eqI {i j : Int} (h : Q (.bl (decide (i = j))) H) : rEq (.int i) (.int j) H Q := by
  have e : decide (V.int i = V.int j) = decide (i = j) := by simp
  exact ⟨rfl, by rw [e]; exact h⟩
theorem r_neI {i j : Int} (h : Q (.bl (!decide (i = j))) H) : rNe (.int i) (.int j) H Q := by
  have e : decide (V.int i = V.int j) = decide (i = j) := by simp
  exact ⟨rfl, by rw [e]; exact h⟩
theorem r_eqS {i j : Str} (h : Q (.bl (decide (i = j))) H) : rEq (.str i) (.str j) H Q := by
  have e : decide (V.str i = V.str j) = decide (i = j) := by simp
  exact ⟨rfl, by rw [e]; exact h⟩
theorem r_neS {i j : Str} (h : Q (.bl (!decide (i = j))) H) : rNe (.str i) (.str j) H Q := by
  have e : decide (V.str i = V.str j) = decide (i = j) := by simp
  exact ⟨rfl, by rw [e]; exact h⟩
theorem r_nil {R : List V → Hp → Prop} (h : R [] H) : tNil σ H R := h
theorem r_cons {te : TE} {t : TA} {R : List V → Hp → Prop} (h : te σ H fun x H1 => t σ H1 fun xs H2 => R (x :: xs) H2) : tCons te t σ H R := h
theorem r_drop {te : TE} (h : te σ H fun _ H1 => n σ H1) : tDrop te ⟨n, r, b, c⟩ σ H := h
theorem r_ret {te : TE} (h : te σ H r) : tRet te ⟨n, r, b, c⟩ σ H := h
theorem r_retN (h : r .non H) : tRetN ⟨n, r, b, c⟩ σ H := h
theorem r_next (h : n σ H) : tNext ⟨n, r, b, c⟩ σ H := h
theorem r_brk (h : b σ H) : tBreak ⟨n, r, b, c⟩ σ H := h
theorem r_if {e : TT} {t u : TS} (h : e σ H fun k H1 => if k = true then t ⟨n, r, b, c⟩ σ H1 else u ⟨n, r, b, c⟩ σ H1) : tIfS e t u ⟨n, r, b, c⟩ σ H := h
theorem r_ifE {c : TT} {ta tb : TE} (h : c σ H fun b H1 => if b = true then ta σ H1 Q else tb σ H1 Q) : tIf c ta tb σ H Q := h
theorem r_test {te : TE} {R : Bool → Hp → Prop} (h : te σ H fun x H' => ∃ k, x = .bl k ∧ R k H') : tTest te σ H R := h
theorem r_B {te : TE} {R : Bool → Hp → Prop} (h : te σ H fun x H' => ∃ k, x = .bl k ∧ R k H') : tB te σ H R := h
theorem r_bl {b : Bool} {R : Bool → Prop} (h : R b) : ∃ k, V.bl b = .bl k ∧ R k := ⟨b, rfl, h⟩
theorem r_and {t u : TT} {R : Bool → Hp → Prop} (h : t σ H fun c H1 => if c = true then u σ H1 R else R false H1) : tAnd t u σ H R := h
theorem r_or {t u : TT} {R : Bool → Hp → Prop} (h : t σ H fun c H1 => if c = true then R true H1 else u σ H1 R) : tOr t u σ H R := h
theorem r_not {t : TT} {R : Bool → Hp → Prop} (h : t σ H fun c H1 => R (!c) H1) : tNot t σ H R := h
theorem r_andV {ta tb : TE} (h : ta σ H fun x H1 => ∃ c, x = .bl c ∧ if c = true then tb σ H1 Q else Q (.bl false) H1) : tAndV ta tb σ H Q := h
theorem r_orV {ta tb : TE} (h : ta σ H fun x H1 => ∃ c, x = .bl c ∧ if c = true then Q (.bl true) H1 else tb σ H1 Q) : tOrV ta tb σ H Q := h
theorem r_notV {ta : TE} (h : ta σ H fun x H1 => ∃ c, x = .bl c ∧ Q (.bl (!c)) H1) : tNotV ta σ H Q := h
theorem r_chain {r r' : R2} {ta tb tc : TE} (h : ta σ H fun x H1 => tb σ H1 fun y H2 => r x y H2 fun z H3 => ∃ k, z = .bl k ∧ (if k = true then tc σ H3 fun w' H4 => r' y w' H4 Q else Q (.bl false) H3)) : tChain r r' ta tb tc σ H Q := h
theorem r_tup {t : TA} (h : t σ H fun xs H1 => xs.length ≤ sizeLine ∧ ∀ p, H1 p = none → Q (.ref p) (upd H1 p (.tup xs))) : tTup t σ H Q := h
theorem r_lst {t : TA} (h : t σ H fun xs H1 => xs.length ≤ sizeLine ∧ ∀ p, H1 p = none → Q (.ref p) (upd H1 p (.lst xs))) : tLst t σ H Q := h
theorem r_call {sp : Sp} {dvs : List V} {E : XK} {t : TA} (h : t σ H fun vs H1 => sp (vs ++ dvs) H1 Q E) : tCall sp dvs E t σ H Q := h
theorem r_CB {r : List V → Hp → VK → Prop} {t : TA} (h : t σ H fun vs H1 => r vs H1 Q) : tCB r t σ H Q := h
theorem r_ixL {p : Addr} {xs : List V} {i : Int} {v : V} (hs : SqL K H p xs) (e : atI xs i = some v) (h : Q v H) : rIxL K (.ref p) (.int i) H Q := ⟨p, xs, i, v, rfl, rfl, hs, e, h⟩
theorem r_ixT {p : Addr} {xs : List V} {i : Int} {v : V} (hs : SqT K H p xs) (e : atI xs i = some v) (h : Q v H) : rIxT K (.ref p) (.int i) H Q := ⟨p, xs, i, v, rfl, rfl, hs, e, h⟩
theorem r_ite {p : Prop} [Decidable p] {A B : Prop} (h1 : p → A) (h2 : ¬ p → B) : if decide p = true then A else B := by
  by_cases c : p
  · rw [if_pos (decide_eq_true c)]
    exact h1 c
  · rw [if_neg (by simp [c])]
    exact h2 c
theorem r_iten {p : Prop} [Decidable p] {A B : Prop} (h1 : ¬ p → A) (h2 : p → B) : if (!decide p) = true then A else B := by
  by_cases c : p
  · rw [if_neg (by simp [c])]
    exact h2 c
  · rw [if_pos (by simp [c])]
    exact h1 c
theorem r_itep {p : Prop} [Decidable p] {A B : Prop} (c : p) (h : A) : if decide p = true then A else B := by
  rw [if_pos (decide_eq_true c)]
  exact h
theorem r_iteN {p : Prop} [Decidable p] {A B : Prop} (c : ¬ p) (h : B) : if decide p = true then A else B := by
  rw [if_neg (by simp [c])]
  exact h
theorem r_iteF {A B : Prop} (h : B) : if false = true then A else B := by
  rw [if_neg Bool.false_ne_true]
  exact h
theorem r_iteT {A B : Prop} (h : A) : if true = true then A else B := by
  rw [if_pos rfl]
  exact h
theorem r_iteNT {A B : Prop} (h : B) : if (!true) = true then A else B := by
  rw [if_neg (by decide)]
  exact h
theorem r_iteNF {A B : Prop} (h : A) : if (!false) = true then A else B := by
  rw [if_pos (by decide)]
  exact h
theorem r_no {p : Prop} [Decidable p] {A B : Prop} (c : p) (h : B) : if (!decide p) = true then A else B := by
  rw [if_neg (by simp [c])]
  exact h
/-- a for over a written range(m) -/
theorem r_forN {v : Int} {g : TG} {tb : TS} (m : Nat) (e : v = (m : Int)) (hn : m < 2 ^ 62) (Pv : Nat → St → Hp → Prop) (h0 : Pv 0 σ H)
    (hs : ∀ (i : Nat) σ H, i < m → Pv i σ H → g (.int (i : Int)) σ H fun σ2 H2 => tb ⟨Pv (i + 1), r, n, Pv (i + 1)⟩ σ2 H2) (hd : ∀ σ H, Pv m σ H → n σ H) : tFor (iRng1 (tCons (tC (.int v)) tNil)) g tb ⟨n, r, b, c⟩ σ H := by
  subst e
  refine ⟨(m : Int), rfl, by omega, by omega, for_range Pv h0 (fun i σ H hi p => ?_) hd⟩
  rw [Int.zero_add]
  exact hs i σ H (by omega) p
/-- a for over range(v), v in a slot -/
theorem r_forV {v : Int} {k : Nat} {g : TG} {tb : TS} (e : σ[k]? = some (some (.int v))) (h1 : -(2 ^ 62) ≤ v) (h2 : v < 2 ^ 62) (Pv : Nat → St → Hp → Prop) (h0 : Pv 0 σ H)
    (hs : ∀ (i : Nat) σ H, (i : Int) < v → Pv i σ H → g (.int (i : Int)) σ H fun σ2 H2 => tb ⟨Pv (i + 1), r, n, Pv (i + 1)⟩ σ2 H2) (hd : ∀ σ H, Pv v.toNat σ H → n σ H) : tFor (iRng1 (tCons (tVar k) tNil)) g tb ⟨n, r, b, c⟩ σ H := by
  refine ⟨_, e, v, rfl, h1, h2, for_range Pv h0 (fun i σ H hi p => ?_) hd⟩
  rw [Int.zero_add]
  exact hs i σ H (by omega) p
/-- a for over range(e), the turns behind its reading -/
theorem r_for {wi : TI} {g : TG} {tb : TS} (h : wi σ H fun J H1 => ∃ W : Nat → Nat → St → Hp → Prop, (∃ m, W 0 m σ H1) ∧ ∀ i m σ H, W i m σ H →
    (J.stop i H ∧ n σ H) ∨ (J.go i H ∧ ∃ N : St → Hp → Prop, (∀ σ' H', N σ' H' → ∃ m', m' < m ∧ W (i + 1) m' σ' H') ∧ ∀ x H', J.yld i H x H' → g x σ H' fun σ2 H2 => tb ⟨N, r, n, N⟩ σ2 H2)) : tFor wi g tb ⟨n, r, b, c⟩ σ H := h
theorem r_rng1 {ta : TA} {R : It → Hp → Prop} (h : ta σ H fun vs H1 => ∃ j : Int, vs = [.int j] ∧ -(2 ^ 62) ≤ j ∧ j < 2 ^ 62 ∧ R (Itr 0 j.toNat) H1) : iRng1 ta σ H R := h
/-- .. the turns -/
theorem r_turns {j : Int} {g : TG} {tb : TS} (h1 : -(2 ^ 62) ≤ j) (h2 : j < 2 ^ 62) (Pv : Nat → St → Hp → Prop) (h0 : Pv 0 σ H)
    (hs : ∀ (i : Nat) σ H, (i : Int) < j → Pv i σ H → g (.int (i : Int)) σ H fun σ2 H2 => tb ⟨Pv (i + 1), r, n, Pv (i + 1)⟩ σ2 H2) (hd : ∀ σ H, Pv j.toNat σ H → n σ H) :
    -(2 ^ 62) ≤ j ∧ j < 2 ^ 62 ∧ ∃ W : Nat → Nat → St → Hp → Prop, (∃ m, W 0 m σ H) ∧ ∀ i m σ H, W i m σ H →
    ((Itr 0 j.toNat).stop i H ∧ n σ H) ∨ ((Itr 0 j.toNat).go i H ∧ ∃ N : St → Hp → Prop, (∀ σ' H', N σ' H' → ∃ m', m' < m ∧ W (i + 1) m' σ' H') ∧ ∀ x H', (Itr 0 j.toNat).yld i H x H' → g x σ H' fun σ2 H2 => tb ⟨N, r, n, N⟩ σ2 H2) := by
  refine ⟨h1, h2, for_range (D := ⟨n, r, fun _ _ => False, fun _ _ => False⟩) Pv h0 (fun i σ H hi p => ?_) hd⟩
  rw [Int.zero_add]
  exact hs i σ H (by omega) p
theorem r_while {e : TT} {tb : TS} (W : Nat → St → Hp → Prop) (m : Nat) (h0 : W m σ H)
    (hs : ∀ m σ H, W m σ H → e σ H fun k H1 => if k = true then ∃ N : St → Hp → Prop, (∀ σ' H', N σ' H' → ∃ m', m' < m ∧ W m' σ' H') ∧ tb ⟨N, r, n, N⟩ σ H1 else n σ H1) : tWhile e tb ⟨n, r, b, c⟩ σ H := ⟨W, ⟨m, h0⟩, hs⟩
theorem r_turn {tb : TS} {W : Nat → St → Hp → Prop} {m : Nat} (h : tb ⟨fun σ' H' => ∃ m', m' < m ∧ W m' σ' H', r, n, fun σ' H' => ∃ m', m' < m ∧ W m' σ' H'⟩ σ H) :
    ∃ N : St → Hp → Prop, (∀ σ' H', N σ' H' → ∃ m', m' < m ∧ W m' σ' H') ∧ tb ⟨N, r, n, N⟩ σ H := ⟨_, fun _ _ h => h, h⟩
end
/-! ### promises by the number of arguments -/
def sp1 (f : V → Hp → VK → XK → Prop) : Sp := fun vs H Q E => ∃ a, vs = [a] ∧ f a H Q E
def sp2 (f : V → V → Hp → VK → XK → Prop) : Sp := fun vs H Q E => ∃ a b, vs = [a, b] ∧ f a b H Q E
def sp3 (f : V → V → V → Hp → VK → XK → Prop) : Sp := fun vs H Q E => ∃ a b c, vs = [a, b, c] ∧ f a b c H Q E
def sp4 (f : V → V → V → V → Hp → VK → XK → Prop) : Sp := fun vs H Q E => ∃ a b c d, vs = [a, b, c, d] ∧ f a b c d H Q E
def sp5 (f : V → V → V → V → V → Hp → VK → XK → Prop) : Sp := fun vs H Q E => ∃ a b c d e, vs = [a, b, c, d, e] ∧ f a b c d e H Q E
def sp6 (f : V → V → V → V → V → V → Hp → VK → XK → Prop) : Sp := fun vs H Q E => ∃ a b c d e g, vs = [a, b, c, d, e, g] ∧ f a b c d e g H Q E
theorem len5 {f} (vs : List V) (H : Hp) (Q : VK) (E : XK) (h : sp5 f vs H Q E) : vs.length = 5 := by
  obtain ⟨_, _, _, _, _, rfl, _⟩ := h
  rfl
theorem len6 {f} (vs : List V) (H : Hp) (Q : VK) (E : XK) (h : sp6 f vs H Q E) : vs.length = 6 := by
  obtain ⟨_, _, _, _, _, _, rfl, _⟩ := h
  rfl
theorem len1 {f} (vs : List V) (H : Hp) (Q : VK) (E : XK) (h : sp1 f vs H Q E) : vs.length = 1 := by
  obtain ⟨_, rfl, _⟩ := h
  rfl
theorem len2 {f} (vs : List V) (H : Hp) (Q : VK) (E : XK) (h : sp2 f vs H Q E) : vs.length = 2 := by
  obtain ⟨_, _, rfl, _⟩ := h
  rfl
theorem len3 {f} (vs : List V) (H : Hp) (Q : VK) (E : XK) (h : sp3 f vs H Q E) : vs.length = 3 := by
  obtain ⟨_, _, _, rfl, _⟩ := h
  rfl
theorem len4 {f} (vs : List V) (H : Hp) (Q : VK) (E : XK) (h : sp4 f vs H Q E) : vs.length = 4 := by
  obtain ⟨_, _, _, _, rfl, _⟩ := h
  rfl
/-- a def's promise from its body -/
theorem calD {P : Program} {w : World} {K : PySem.W.Frag} {mg : Str → Option Value} {base : Heap} {x qual : Str} {params : Arguments} {body : List Stmt} {scope : Scope} {f : Addr} {fd : FuncData} {N ps : List Str} {k : Nat} {sp : Sp}
    (F : FunD K x qual params body scope [] [] f fd) (m : mg x = some (.ref f)) (S : FnScope N ps scope)
    (hb : ∀ (kV doc pm : Value) (an : Option Addr) (cdv ct : Value) (us : List Value), us.length = ps.length → bindArgs (PySem.W.fnOf x qual params body scope .none kV doc pm an cdv ct) ⟨us, []⟩ = pure (ps.zip us))
    (len : ∀ vs H Q E, sp vs H Q E → vs.length = ps.length)
    (hbody : ∀ (cdv : Value) (A : Around) (outer : List Env) (s : Shared) (H : Hp) (vs : List V) (Q : VK) (E : XK), Room k (A.deeper (envOfC qual scope s.heap.objs.size f cdv)) → sp vs H Q E →
      ∃ t, PSs (cxOf CX0 P w K mg base N qual scope f cdv A outer s H E).nox body t ∧ t { nx := fun _ H' => Q .non H', rt := Q } (start N vs) H) : Cal P w K mg base (k + 1) x sp [] :=
  ⟨f, fd, ps, [], F.ok S len fun cdv A outer s H vs Q E hr h => by
    obtain ⟨t, h1, h2⟩ := hbody cdv A outer s H vs Q E hr h
    exact ⟨t, h1.nox, h2⟩, m, F.kp, F.bindsN hb, .nil⟩
theorem fnD {P : Program} {w : World} {K : PySem.W.Frag} {mg : Str → Option Value} {base : Heap} {x qual : Str} {params : Arguments} {body : List Stmt} {scope : Scope} {f : Addr} {fd : FuncData} {N ps : List Str} {k : Nat} {sp : Sp}
    (F : FunD K x qual params body scope [] [] f fd) (S : FnScope N ps scope) (len : ∀ vs H Q E, sp vs H Q E → vs.length = ps.length)
    (hbody : ∀ (cdv : Value) (A : Around) (outer : List Env) (s : Shared) (H : Hp) (vs : List V) (Q : VK) (E : XK), Room k (A.deeper (envOfC qual scope s.heap.objs.size f cdv)) → sp vs H Q E →
      ∃ t, PSs (cxOf CX0 P w K mg base N qual scope f cdv A outer s H E).nox body t ∧ t { nx := fun _ H' => Q .non H', rt := Q } (start N vs) H) : FnOk P w K mg base CX0 (k + 1) f fd ps sp :=
  F.ok S len fun cdv A outer s H vs Q E hr h => by
    obtain ⟨t, h1, h2⟩ := hbody cdv A outer s H vs Q E hr h
    exact ⟨t, h1.nox, h2⟩
theorem conI {K : PySem.W.Frag} {h : Heap} {mg : Str → Option Value} {x : Str} {i : Int} (X : K.In h) (G : h.Ns mainGlobals mg) (c : (He.Fa.int x i).ok K = true) : ∃ u, mg x = some u ∧ RelV (.int i) u := by
  obtain ⟨t, e⟩ := He.int_ok X G c
  exact ⟨_, e, t, rfl⟩
theorem conS {K : PySem.W.Frag} {h : Heap} {mg : Str → Option Value} {x z : Str} (X : K.In h) (G : h.Ns mainGlobals mg) (c : (He.Fa.str x z).ok K = true) : ∃ u, mg x = some u ∧ RelV (.str z) u := by
  obtain ⟨t, e⟩ := He.str_ok X G c
  exact ⟨_, e, t, rfl⟩

/-! ### more readings -/
section
variable {σ : St} {H : Hp} {n b c : St → Hp → Prop} {r : VK} {Q : VK}
theorem r_cut {t u : TS} (Mid : St → Hp → Prop) (h1 : t ⟨Mid, r, b, c⟩ σ H) (h2 : ∀ σ' H', Mid σ' H' → u ⟨n, r, b, c⟩ σ' H') : tCut t u ⟨n, r, b, c⟩ σ H := ⟨Mid, h1, h2⟩
end
section
variable {σ : St} {H : Hp} {Q : VK} {K : PySem.W.Frag}
theorem r_yes {R : Bool → Hp → Prop} (h : R true H) : tYes σ H R := h
theorem r_isi {x : V} {c d : String} {b : Bool} (t : TyX K H x (.type d)) (e : kitB d c = some b) (h : Q (.bl b) H) : rIsi K [x, .ty c] H Q := ⟨x, .ty c, .type d, .type c, b, rfl, .ty c, t, kit_ty e, h⟩
theorem r_neD {x y : V} {d e : PyData} (h1 : Dp K H x d) (h2 : Dp K H y e) (s1 : SeqAt.shaped d = true) (s2 : SeqAt.shaped e = true) (h : Q (.bl (!PyData.eqv d e)) H) : rNeD K x y H Q := ⟨d, e, h1, h2, s1, s2, h⟩
theorem r_eqD {x y : V} {d e : PyData} (h1 : Dp K H x d) (h2 : Dp K H y e) (s1 : SeqAt.shaped d = true) (s2 : SeqAt.shaped e = true) (h : Q (.bl (PyData.eqv d e)) H) : rEqD K x y H Q := ⟨d, e, h1, h2, s1, s2, h⟩
theorem eqv_same {d : PyData} (s : SeqAt.shaped d = true) : PyData.eqv d d = true := SeqAt.eqv_refl d (Bool.and_eq_true_iff.mp s).1
/-- the same data on both sides -/
theorem r_neDs {x y : V} {d : PyData} (h1 : Dp K H x d) (h2 : Dp K H y d) (s : SeqAt.shaped d = true) (h : Q (.bl false) H) : rNeD K x y H Q := r_neD h1 h2 s s (by rw [eqv_same s]; exact h)
theorem r_eqDs {x y : V} {d : PyData} (h1 : Dp K H x d) (h2 : Dp K H y d) (s : SeqAt.shaped d = true) (h : Q (.bl true) H) : rEqD K x y H Q := r_eqD h1 h2 s s (by rw [eqv_same s]; exact h)
theorem r_rfl {v : V} {B : Prop} (h : B) : v = v ∧ B := ⟨rfl, h⟩
theorem r_gtup {p : Addr} {xs : List V} {n : Nat} {t : TGs} {R : St → Hp → Prop} (hs : SqT K H p xs) (hl : xs.length = n) (h : t xs σ H R) : gTup K n t (.ref p) σ H R := ⟨p, xs, rfl, hs, hl, h⟩
theorem r_gcons {t : TG} {u : TGs} {v : V} {vs : List V} {R : St → Hp → Prop} (h : t v σ H fun σ' H' => u vs σ' H' R) : gCons t u (v :: vs) σ H R := ⟨v, vs, rfl, h⟩
theorem r_gnil {R : St → Hp → Prop} (h : R σ H) : gNil [] σ H R := ⟨rfl, h⟩
theorem r_iteC {p : Prop} [Decidable p] {a b : Int} (h : Q (.int (if p then a else b)) H) : if decide p = true then tC (.int a) σ H Q else tC (.int b) σ H Q := by
  by_cases c : p
  · rw [if_pos (decide_eq_true c)]
    rw [if_pos c] at h
    exact h
  · rw [if_neg (by simp [c])]
    rw [if_neg c] at h
    exact h
theorem r_iteJ {p : Prop} [Decidable p] {ta tb : TE} (v : V) (h1 : p → ∀ R : VK, R v H → ta σ H R) (h2 : ¬ p → ∀ R : VK, R v H → tb σ H R) (h : Q v H) : if decide p = true then ta σ H Q else tb σ H Q := by
  by_cases c : p
  · rw [if_pos (decide_eq_true c)]
    exact h1 c Q h
  · rw [if_neg (by simp [c])]
    exact h2 c Q h
theorem r_max2 {p : Addr} {x y : Int} (hs : H p = some (.lst [.int x, .int y])) (h : Q (.int (max x y)) H) : rMax K [.ref p] H Q := by
  refine ⟨p, [x, y], rfl, SqL.of hs, by show 0 < 2; decide, fun m hm hle => ?_⟩
  have h1 := hle x (by simp)
  have h2 := hle y (by simp)
  have e : m = max x y := by
    rcases List.mem_cons.mp hm with e | e
    · omega
    · rcases List.mem_cons.mp e with e | e
      · omega
      · cases e
  rw [e]
  exact h
theorem r_lam1 {x : V} {R : V → Prop} (h : R x) : ∃ i, [x] = [i] ∧ R i := ⟨x, rfl, h⟩
theorem r_abs {x : Int} {R : Int → Prop} (h : R x) : ∃ i, [V.int x] = [V.int i] ∧ R i := ⟨x, rfl, h⟩
theorem r_int1 {x : Int} {R : Int → Prop} {B : Prop} (h : R x) : (∃ i, [V.int x] = [V.int i] ∧ R i) ∨ B := .inl ⟨x, rfl, h⟩
theorem r_bm {T : String} {r : V → List V → Hp → VK → Prop} {to : TE} {t : TA} (h : to σ H fun x H1 => tyV K T x H1 ∧ t σ H1 fun xs H2 => r x xs H2 Q) : tBM K T r to t σ H Q := h
theorem r_bm0 {T : String} {r : V → List V → Hp → VK → Prop} {to : TE} (h : to σ H fun x H1 => tyV K T x H1 ∧ r x [] H1 Q) : tBM0 K T r to σ H Q := h
theorem tyL {p : Addr} {xs : List V} (h : H p = some (.lst xs)) : tyV K "list" (.ref p) H := Or.inl ⟨rfl, _, SqL.of h⟩
theorem r_app {p : Addr} {xs : List V} {y : V} (h : H p = some (.lst xs)) (hl : xs.length < sizeLine) (q : Q .non (upd H p (.lst (xs ++ [y])))) : rAppend (.ref p) [y] H Q := ⟨p, xs, y, rfl, rfl, h, hl, q⟩
theorem r_sub {to ti : TE} {t : TSet} {v : V} {R : St → Hp → Prop} (h : to σ H fun o H1 => ti σ H1 fun i H2 => t o i v H2 fun H3 => R σ H3) : gSub to ti t v σ H R := h
theorem r_setL {p : Addr} {xs : List V} {k : Int} {j : Nat} {v : V} {R : Hp → Prop} (h : H p = some (.lst xs)) (e : ixN xs.length k = some j) (q : R (upd H p (.lst (xs.set j v)))) : rSetL (.ref p) (.int k) v H R := ⟨p, xs, k, j, rfl, rfl, h, e, q⟩
theorem r_lcR {ta : TA} {g : TG} {tt : TT} {te : TE} {vs : List Nat} (n : Nat) (hn : n < 2 ^ 62)
    (h : ∀ D, H D = none → ∃ W : Nat → Nat → Hp → Prop, (∃ m, W 0 m (upd H D (.lst []))) ∧ ∀ i m H, W i m H →
      ((Itr 0 n).stop i H ∧ Q (.ref D) H) ∨ ((Itr 0 n).go i H ∧ ∃ Nx : Hp → Prop, (∀ H', Nx H' → ∃ m', m' < m ∧ W (i + 1) m' H') ∧ ∀ x H', (Itr 0 n).yld i H x H' → g x (wipe σ vs) H' fun σ2 H2 => wipe σ2 vs = wipe σ vs ∧ tt σ2 H2 fun b H3 =>
        if b = true then te σ2 H3 fun y H4 => ∃ acc, H4 D = some (.lst acc) ∧ acc.length < sizeLine ∧ Nx (upd H4 D (.lst (acc ++ [y]))) else Nx H3))
    (he : ∀ R : List V → Hp → Prop, R [.int (n : Int)] H → ta σ H R) : tLc (iRng1 ta) g tt te vs σ H Q := by
  refine he _ ⟨(n : Int), rfl, by omega, by omega, ?_⟩
  have e : ((n : Int)).toNat = n := by omega
  rw [e]
  exact h
theorem same_upd {H : Hp} {p : Addr} (h : H p = none) (o : HO) : Same H (upd H p o) := fun b u q => by
  rw [upd_ne (ne_of_none q h)]
  exact q
theorem seq_upd {p b : Addr} {xs : List V} {o : HO} (h : SqL K H b xs) (hn : b ≠ p) : SqL K (upd H p o) b xs := by
  rcases h with (h | ⟨u, h⟩) | h
  · exact .inl (.inl ((upd_ne hn).trans h))
  · exact .inl (.inr ⟨u, (upd_ne hn).trans h⟩)
  · exact .inr h
theorem atI_ints {ns : List Int} {k : Int} (h0 : 0 ≤ k) (h1 : k < (ns.length : Int)) : ∃ v, v ∈ ns ∧ atI (ns.map V.int) k = some (.int v) := by
  have hk : k.toNat < ns.length := by omega
  have ek : k = ((k.toNat : Nat) : Int) := by omega
  have q : atI (ns.map V.int) ((k.toNat : Nat) : Int) = some (.int ns[k.toNat]) := atI_nat (by rw [List.getElem?_map, List.getElem?_eq_getElem hk] <;> rfl)
  rw [← ek] at q
  exact ⟨ns[k.toNat], List.getElem_mem hk, q⟩
end

/-! ### what the program's top leaves, looked at: its defs by their addresses, facts, written data; the statics too -/
abbrev Frg := PySem.W.Frag
/-- the getter of a property of a class -/
def prAd (C f : Str) (K : Frg) : Addr := match PySem.W.recIn K (He.ma K (He.ga K C) f) "property" with
  | some (.ref g :: _) => g
  | _ => 0
def glAd (x : Str) (K : Frg) : Addr := He.ga K x
def meAd (C m : Str) (K : Frg) : Addr := He.ma K (He.ga K C) m
structure DefM where
  ad : Frg → Addr
  nm : Str
  ql : Str
  pa : Arguments
  bo : List Stmt
  sc : Scope
  df : List He.Dv := []
def seeM (K : Frg) (d : DefM) : He.FnW := match K.lookup (d.ad K) with
  | some ⟨_, _, .func u, _⟩ => some (u.name, u.qualname, u.params, u.body, u.scope, u.globals, u.closure, u.builtins)
  | _ => none
def dueM (d : DefM) : He.FnW := some (d.nm, d.ql, d.pa, .stmts d.bo, d.sc, mainGlobals, [], builtinsNs)
def okM (K : Frg) (d : DefM) : Bool := PySem.W.keepIn K (.ref (d.ad K)) && (match K.lookup (d.ad K) with
  | some ⟨_, _, .func u, _⟩ => PySem.W.codeIn K u.code d.ql && He.dflB K u.defaults (d.df.map (He.Dv.v K))
  | _ => false)
theorem both {a b : Bool} (h : (a && b) = true) : a = true ∧ b = true := Bool.and_eq_true_iff.mp h
theorem funM {K : Frg} {d : DefM} (e : seeM K d = dueM d) (c : okM K d = true) : ∃ fd, FunD K d.nm d.ql d.pa d.bo d.sc (d.df.map (He.Dv.v K)) [] (d.ad K) fd := by
  have kp := (both c).1
  have c2 := (both c).2
  unfold seeM dueM at e
  split at c2
  · rename_i x1 x2 u x3 hL
    rw [hL] at e
    obtain ⟨n1, n2, n3, n4, n5, n6, n7, n8, n9, n10, n11, n12, n13, n14, n15⟩ := u
    simp only [Option.some.injEq, Prod.mk.injEq] at e
    obtain ⟨h1, h2, h3, h4, h5, h6, h7, h8⟩ := e
    subst h1 h2 h3 h4 h5 h6 h7 h8
    have k := both c2
    exact ⟨_, ⟨x1, x2, n8, n9, n10, n11, n12, n13, n14, x3, rfl, hL, k.1, He.dflB_ok k.2, .inl rfl⟩, kp⟩
  · cases c2
/-- written data: none, truths, integers, texts, lists and tuples of them -/
def datB (K : Frg) : Nat → Value → PyData → Bool
  | 0, _, _ => false
  | n + 1, u, d => match u, d with
    | .none, .none => true
    | .bool b, .bool c => b == c
    | .int i _, .int j => decide (i = j)
    | .str x _, .str y => decide (x = y)
    | .ref a, .tuple ds => (match K.lookup a with
      | some ⟨.type c, _, .seq its _, _⟩ => decide (c = "tuple") && (decide (its.size ≤ sizeLine) && datAll (fun u d => datB K n u d) its.toList ds)
      | _ => false)
    | _, _ => false
where datAll (f : Value → PyData → Bool) : List Value → List PyData → Bool
  | [], [] => true
  | u :: us, d :: ds => f u d && datAll f us ds
  | _, _ => false
theorem datAll_ok {K : Frg} {f : Value → PyData → Bool} (hf : ∀ u d, f u d = true → ∃ x, RelV x u ∧ ∀ H, Dp K H x d) : ∀ (us : List Value) (ds : List PyData), datB.datAll f us ds = true → ∃ xs, Vals xs us ∧ ∀ H, DpAll K H xs ds
  | [], [], _ => ⟨[], .nil, fun _ => .nil⟩
  | u :: us, d :: ds, h => by
    unfold datB.datAll at h
    obtain ⟨x, r, k⟩ := hf u d (both h).1
    obtain ⟨xs, rs, ks⟩ := datAll_ok hf us ds (both h).2
    exact ⟨x :: xs, .cons r rs, fun H => .cons (k H) (ks H)⟩
  | [], _ :: _, h => by cases h
  | _ :: _, [], h => by cases h
theorem datB_ok {K : Frg} : ∀ (n : Nat) (u : Value) (d : PyData), datB K n u d = true → ∃ x, RelV x u ∧ ∀ H, Dp K H x d
  | 0, _, _, h => by cases h
  | n + 1, u, d, h => by
    unfold datB at h
    match u, d, h with
    | .none, .none, _ => exact ⟨.non, rfl, fun _ => .non⟩
    | .bool b, .bool c, h =>
      have e : b = c := eq_of_beq h
      subst e
      exact ⟨.bl b, rfl, fun _ => .bl b⟩
    | .int i t, .int j, h =>
      have e : i = j := of_decide_eq_true h
      subst e
      exact ⟨.int i, ⟨t, rfl⟩, fun _ => .int i⟩
    | .str x t, .str y, h =>
      have e : x = y := of_decide_eq_true h
      subst e
      exact ⟨.str x, ⟨t, rfl⟩, fun _ => .str x⟩
    | .ref a, .tuple ds, h =>
      have h' : (match K.lookup a with
        | some ⟨.type c, _, .seq its _, _⟩ => decide (c = "tuple") && (decide (its.size ≤ sizeLine) && datB.datAll (fun u d => datB K n u d) its.toList ds)
        | _ => false) = true := h
      split at h'
      · rename_i c x2 its m x3 hL
        have h1 := (both h').1
        have h2 := (both (both h').2).1
        obtain ⟨xs, rs, ks⟩ := datAll_ok (datB_ok n) its.toList ds (both (both h').2).2
        exact ⟨.ref a, rfl, fun H => .tup (.inr ⟨_, its, m, hL, congrArg Value.type (of_decide_eq_true h1), rfl, of_decide_eq_true h2, rs⟩) (ks H)⟩
      · cases h'
/-- a name of the module that stands for such data -/
def conB (K : Frg) (x : Str) (d : PyData) : Bool := match PySem.W.nsIn K mainGlobals x with
  | some (some u) => datB K 8 u d
  | _ => false
theorem conM {K : Frg} {h : Heap} {mg : Str → Option Value} {x : Str} {d : PyData} (X : K.In h) (G : h.Ns mainGlobals mg) (c : conB K x d = true) : ∃ v u, mg x = some u ∧ RelV v u ∧ ∀ H, Dp K H v d := by
  unfold conB at c
  split at c
  · rename_i u hL
    obtain ⟨v, r, k⟩ := datB_ok 8 u d c
    exact ⟨v, u, PySem.W.mg_of X G hL, r, k⟩
  · cases c
/-- a property of a class -/
def prB (K : Frg) (C f : Str) : Bool := He.eqO (PySem.W.findIn K (.ref (He.ga K C)) f) (some (some (.ref (He.ma K (He.ga K C) f)))) &&
  (He.eqO (PySem.W.specialIn K (.ref (He.ma K (He.ga K C) f)) "__get__") (some (some (.builtin "property.__get__"))) && (decide (PySem.W.takesIn K (.ref (He.ma K (He.ga K C) f)) = some true) &&
  (match PySem.W.recIn K (He.ma K (He.ga K C) f) "property" with
    | some (.ref _ :: _) => true
    | _ => false)))
theorem prM {K : Frg} {C f : Str} (h : prB K C f = true) : PropOf K (He.ga K C) f (He.ma K (He.ga K C) f) (prAd C f K) := by
  obtain ⟨h1, h⟩ := both h
  obtain ⟨h2, h⟩ := both h
  obtain ⟨h3, h4⟩ := both h
  refine ⟨He.eqO_ok h1, He.eqO_ok h2, of_decide_eq_true h3, ?_⟩
  unfold prAd
  split at h4
  · rename_i g r hL
    rw [hL]
    exact ⟨r, rfl⟩
  · cases h4
/-- no limit of digits is set -/
def digB (K : Frg) : Bool := PySem.W.nsOkIn K cStatics && He.eqO (PySem.W.nsIn K cStatics "sys.int_max_str_digits") (some none)
def DigK (K : Frg) : Prop := PySem.W.nsOkIn K cStatics = true ∧ PySem.W.nsIn K cStatics "sys.int_max_str_digits" = some none
theorem digK_ok {K : Frg} (h : digB K = true) : DigK K := ⟨(both h).1, He.eqO_ok (both h).2⟩
/-! the Hook -/
abbrev AlM : Type := Bool × List He.FnW
def frM (n : Nat) (g : Addr → Option Obj) : Frg := He.frG g (cStatics :: He.asD g n)
def obsM (fa : List He.Fa) (ex : Frg → Bool) (fn : List DefM) (K : Frg) : AlM := ((fa.all fun x => x.ok K) && (ex K && fn.all fun d => okM K d), fn.map fun d => seeM K d)
def valM (fn : List DefM) : AlM := (true, fn.map dueM)
def SaysM (fa : List He.Fa) (ex : Frg → Bool) (fn : List DefM) (K : Frg) : Prop := obsM fa ex fn K = valM fn
def hookM (n : Nat) (fa : List He.Fa) (ex : Frg → Bool) (fn : List DefM) : PySem.W.Hook where
  α := AlM
  obs := fun s => obsM fa ex fn (frM n s.heap.get?)
  val := fun _ => valM fn
  says := fun _ h => ∃ K : Frg, K.In h ∧ SaysM fa ex fn K
  of := fun _ _ e => ⟨_, He.frG_in, e⟩
  keeps := fun _ _ _ ⟨K, hK, c⟩ k => ⟨K, PySem.W.Frag.In.keeps hK k, c⟩
theorem obsM_eq {n : Nat} {fa : List He.Fa} {ex : Frg → Bool} {fn : List DefM} {g : Addr → Option Obj} {s : Shared} (h : ∀ a, g a = s.heap.get? a) : obsM fa ex fn (frM n g) = (hookM n fa ex fn).obs s := by
  have e : g = s.heap.get? := funext h
  subst e
  rfl
section
variable {fa : List He.Fa} {ex : Frg → Bool} {fn : List DefM} {K : Frg}
theorem SaysM.fact (c : SaysM fa ex fn K) (i : Nat) {x : He.Fa} (h : fa[i]? = some x) : x.ok K = true :=
  List.all_eq_true.mp (both (congrArg Prod.fst c : ((fa.all fun x => x.ok K) && (ex K && fn.all fun d => okM K d)) = true)).1 x (List.mem_of_getElem? h)
theorem SaysM.more (c : SaysM fa ex fn K) : ex K = true := (both (both (congrArg Prod.fst c : ((fa.all fun x => x.ok K) && (ex K && fn.all fun d => okM K d)) = true)).2).1
theorem SaysM.def_ (c : SaysM fa ex fn K) (i : Nat) {d : DefM} (h : fn[i]? = some d) : ∃ fd, FunD K d.nm d.ql d.pa d.bo d.sc (d.df.map (He.Dv.v K)) [] (d.ad K) fd := by
  have c2 := (both (both (congrArg Prod.fst c : ((fa.all fun x => x.ok K) && (ex K && fn.all fun d => okM K d)) = true)).2).2
  have e2 : (fn.map fun d => seeM K d)[i]? = (fn.map dueM)[i]? := congrArg (fun z : AlM => z.2[i]?) c
  simp only [List.getElem?_map, h, Option.map_some, Option.some.injEq] at e2
  exact funM e2 (List.all_eq_true.mp c2 d (List.mem_of_getElem? h))
end

/-! ### a dict that the module's top writes: keys integers and texts -/
section
open PySem PySem.Spec PyProof.Rows L2
def TabAt (K : PySem.W.Frag) (w : World) (a : Addr) (kvs : List (Key × V)) : Prop := (a == sysModules) = false ∧ ∃ vs : List (Key × Value), KV kvs vs ∧ ∀ (P : Program) (h : Heap), K.In h → h.DictOf (mixKind P w) a vs
def tKGet (K : PySem.W.Frag) (w : World) (td ty tx : TE) : TE := fun σ H Q => td σ H fun x H1 => ∃ a kvs, x = .ref a ∧ TabAt K w a kvs ∧ ty σ H1 fun y H2 => tx σ H2 fun z H3 => ∃ k, y = kV k ∧ Q ((valV kvs k).getD z) H3
def tKIx (K : PySem.W.Frag) (w : World) (td ty : TE) : TE := fun σ H Q => td σ H fun x H1 => ty σ H1 fun y H2 => ∃ a kvs k v, x = .ref a ∧ TabAt K w a kvs ∧ y = kV k ∧ valV kvs k = some v ∧ Q v H2
def tKIn (K : PySem.W.Frag) (w : World) (ty td : TE) : TE := fun σ H Q => ty σ H fun y H1 => td σ H1 fun x H2 => ∃ a kvs k, x = .ref a ∧ TabAt K w a kvs ∧ y = kV k ∧ Q (.bl (valV kvs k).isSome) H2
section
variable {X : Cx} {o e f : Expr} {apos cpos : Pos} {td ty tx : TE}
theorem dictOf_free {P : Program} {w : World} {h : Heap} {a : Addr} {vs : List (Key × Value)} (d : h.DictOf (mixKind P w) a vs) : ∃ ob, h.get? a = some ob ∧ ob.dict = none := by
  obtain ⟨ob, _, _, h1, h2, _⟩ := d
  exact ⟨ob, h1, h2.2.1⟩
theorem pe_kget2 (ho : PE X o td) (he : PE X e ty) (hf : PE X f tx) (m : M2 X o "get" apos e f cpos) : PE X (.Call (.Attribute o "get" apos) [e, f] [] cpos) (tKGet X.K X.w td ty tx) := by
  refine ⟨fun pins s σ H Q I h => ?_⟩
  refine wpAny_Call_method m.base m.few m.line PySem.F.plainAttrs_dict PySem.F.slot_dict_get PySem.F.type_dict_get (thn (ho.run pins s σ H _ I h) fun u s1 ⟨x, H1, I1, rx, a, kvs, ex, ⟨hd, vs, rel, dd⟩, q1⟩ => ?_)
  subst ex
  obtain rfl : u = Value.ref a := rx
  have d1 := dd X.prog s1.heap I1.kIn
  refine ⟨d1.typeIs, fun b q => ?_, ?_⟩
  · cases q
    exact dictOf_free d1
  rw [m.trees]
  refine Calls.callWith_builtin rfl (Calls.evalArgs_plain (Calls.spliced_cons (thn (he.run pins s1 σ H1 _ I1 q1) fun iv s2 ⟨y, H2, I2, ry, q2⟩ =>
    Calls.spliced_cons (thn (hf.run pins s2 σ H2 _ I2 q2) fun fv s3 ⟨z, H3, I3, rz, k, ey, q3⟩ => Calls.spliced_nil ?_))))
  subst ey
  have d3 := dd X.prog s3.heap I3.kIn
  refine call_meetsIn PySem.F.slot_dict_get d3.typeIs PySem.F.entry_dict_get (PySem.F.args_dict_get_3 _ _ _) (meets_dict_get_default (mixKind X.prog X.w) a (kV_is ry) hd fv) ⟨_, d3.mapOf, ⟨_, H3, I3.tok _, ?_, q3⟩⟩
  exact (rel.val k).getD rz
theorem pe_kix (ho : PE X o td) (hi : PE X e ty) (hs : NoSl e) : PE X (.Subscript o e cpos) (tKIx X.K X.w td ty) := by
  refine ⟨fun pins s σ H Q I h => ?_⟩
  refine subD_of PySem.F.slot_dict_getitem.lookup hs (thn (ho.run pins s σ H _ I h) fun u s1 ⟨x, H1, I1, rx, q1⟩ => thn (hi.run pins s1 σ H1 _ I1 q1) fun iv s2 ⟨y, H2, I2, ry, a, kvs, k, v, ex, ⟨hd, vs, rel, dd⟩, ey, l, q2⟩ => ?_)
  subst ex
  subst ey
  obtain rfl : u = Value.ref a := rx
  have d2 := dd X.prog s2.heap I2.kIn
  obtain ⟨w', hw, rw'⟩ := RelO.some_of (v := v) (o := valueAt vs k) (by rw [← l]; exact rel.val k)
  exact ⟨d2.typeIs, wpAny_getItem_of (kV_is ry) d2.mapOf hw ⟨v, H2, I2.tok _, rw', q2⟩⟩
theorem pc_kin (hi : PE X e ty) (ho : PE X o td) : PC X .In e o (tKIn X.K X.w ty td) := by
  refine ⟨fun pins s σ H Q I h => ?_⟩
  refine thn (hi.run pins s σ H _ I h) fun iv s1 ⟨y, H1, I1, ry, q1⟩ => thn (ho.run pins s1 σ H1 _ I1 q1) fun u s2 ⟨x, H2, I2, rx, a, kvs, k, ex, ⟨hd, vs, rel, dd⟩, ey, q2⟩ => ?_
  subst ex
  subst ey
  obtain rfl : u = Value.ref a := rx
  have d2 := dd X.prog s2.heap I2.kIn
  refine wpAny_in_of (kV_is ry) hd d2.mapOf ?_
  rw [← (rel.val k).isSome_eq]
  exact ⟨.bl _, H2, I2.tok _, rfl, q2⟩
end
/-! .. keys tuples of integers and texts -/
def KTk : List (List Key × V) → List (List Key × Addr × Value) → Prop := Paired fun (p : List Key × V) (q : List Key × Addr × Value) => p.1 = q.1 ∧ RelV p.2 q.2.2
theorem KTk.val {kvs : List (List Key × V)} {xs : List (List Key × Addr × Value)} (r : KTk kvs xs) (k : List Key) : RelO (valV kvs k) ((atKey xs k).map (·.2)) := by
  induction r with
  | nil => exact True.intro
  | @cons p q ps qs h t ih =>
    obtain ⟨h1, h2⟩ := h
    by_cases e : p.1 = k
    · have e' : q.1 = k := h1.symm.trans e
      have b : atKey (q :: qs) k = some q.2 := by simp [atKey, List.find?_cons, e']
      rw [valV_pos e, b]; exact h2
    · have e' : ¬ q.1 = k := fun z => e (h1.trans z)
      have b : atKey (q :: qs) k = atKey qs k := by simp [atKey, List.find?_cons, e']
      rw [valV_neg e, b]; exact ih
def TabTAt (K : PySem.W.Frag) (w : World) (a : Addr) (kvs : List (List Key × V)) : Prop := (a == sysModules) = false ∧ ∃ xs : List (List Key × Addr × Value), KTk kvs xs ∧ ∀ (P : Program) (h : Heap), K.In h → h.DictOfH (tupleKind (mixKind P w)) a xs
def tKGetT (K : PySem.W.Frag) (w : World) (td ty tx : TE) : TE := fun σ H Q => td σ H fun x H1 => ∃ a kvs, x = .ref a ∧ TabTAt K w a kvs ∧ ty σ H1 fun y H2 => tx σ H2 fun z H3 => ∃ b ks, y = .ref b ∧ H3 b = some (.tup (ks.map kV)) ∧ Q ((valV kvs ks).getD z) H3
section
variable {X : Cx} {o e f : Expr} {apos cpos : Pos} {td ty tx : TE}
theorem pe_kget2T (hu : X.A.units + 1 < cLine) (ho : PE X o td) (he : PE X e ty) (hf : PE X f tx) (m : M2 X o "get" apos e f cpos) : PE X (.Call (.Attribute o "get" apos) [e, f] [] cpos) (tKGetT X.K X.w td ty tx) := by
  refine ⟨fun pins s σ H Q I h => ?_⟩
  refine wpAny_Call_method m.base m.few m.line PySem.F.plainAttrs_dict PySem.F.slot_dict_get PySem.F.type_dict_get (thn (ho.run pins s σ H _ I h) fun u s1 ⟨x, H1, I1, rx, a, kvs, ex, ⟨hd, xs, rel, dd⟩, q1⟩ => ?_)
  subst ex
  obtain rfl : u = Value.ref a := rx
  have d1 := dd X.prog s1.heap I1.kIn
  refine ⟨d1.typeIs, fun b q => ?_, ?_⟩
  · cases q
    obtain ⟨ob, _, _, h1, h2, _⟩ := d1
    exact ⟨ob, h1, h2.2.1⟩
  rw [m.trees]
  refine Calls.callWith_builtin rfl (Calls.evalArgs_plain (Calls.spliced_cons (thn (he.run pins s1 σ H1 _ I1 q1) fun iv s2 ⟨y, H2, I2, ry, q2⟩ =>
    Calls.spliced_cons (thn (hf.run pins s2 σ H2 _ I2 q2) fun fv s3 ⟨z, H3, I3, rz, b, ks, ey, eb, q3⟩ => Calls.spliced_nil ?_))))
  subst ey
  obtain rfl : iv = Value.ref b := ry
  have d3 := dd X.prog s3.heap I3.kIn
  refine call_meetsIn PySem.F.slot_dict_get d3.typeIs PySem.F.entry_dict_get (PySem.F.args_dict_get_3 _ _ _) (meetsH_dict_get_default (tupleKind (mixKind X.prog X.w)) a b hd fv) ⟨tupleKind_room_in1 hu, ks, xs, key_of I3.hok eb, d3, ⟨_, H3, I3.tok _, ?_, q3⟩⟩
  exact (rel.val ks).getD rz
end
end
section
open PySem PySem.Spec PyProof.Rows L2
abbrev KeyX : Type := Sum Key (List Key)
def hashX (w : World) : KeyX → Int
  | .inl k => keyH w k
  | .inr ks => reduceHash (Builtin.Tuple.tupleHashOf (ks.map (keyH w)))
def keyV : Value → Option Key
  | .str x _ => some (.inr x)
  | .int i _ => some (.inl i)
  | _ => none
def keyL : List Value → Option (List Key)
  | [] => some []
  | v :: r => match keyV v, keyL r with
    | some k, some ks => some (k :: ks)
    | _, _ => none
def keyX (K : PySem.W.Frag) : Value → Option KeyX
  | .ref b => (match K.lookup b with
    | some ⟨.type c, _, .seq its _, _⟩ => (match decide (c = "tuple") with
      | true => (match keyL its.toList with
        | some ks => some (.inr ks)
        | none => none)
      | false => none)
    | _ => none)
  | v => (match keyV v with
    | some k => some (.inl k)
    | none => none)
def tabE (K : PySem.W.Frag) (e : DictEntry) : Option (KeyX × Int) := match keyX K e.key with
  | some k => some (k, e.hash)
  | none => none
def tabW (K : PySem.W.Frag) (a : Addr) : Option (List (Option (KeyX × Int))) := match K.lookup a with
  | some ⟨.type c, none, .dict es _, sl⟩ => (match decide (c = "dict") && (sl.isEmpty && !(a == sysModules)) with
    | true => some (es.toList.map (tabE K))
    | false => none)
  | _ => none
def keysX (w : World) (ks : List KeyX) : List (Option (KeyX × Int)) := ks.map fun k => some (k, hashX w k)
def relAllB : List V → List Value → Bool
  | [], [] => true
  | x :: xs, u :: us => He.relB x u && relAllB xs us
  | _, _ => false
def tabV (K : PySem.W.Frag) (a : Addr) (xs : List V) : Bool := match K.lookup a with
  | some ⟨_, _, .dict es _, _⟩ => relAllB xs (es.toList.map (·.val))
  | _ => false
theorem tabW_obj {K : PySem.W.Frag} {a : Addr} {l : List (Option (KeyX × Int))} (h : tabW K a = some l) : ∃ es n, K.lookup a = some ⟨.type "dict", none, .dict es n, #[]⟩ ∧ es.toList.map (tabE K) = l ∧ (a == sysModules) = false := by
  unfold tabW at h
  cases q : K.lookup a with
  | none =>
    rw [q] at h
    cases h
  | some o =>
    obtain ⟨oc, od, dt, osl⟩ := o
    rw [q] at h
    cases oc with
    | type c =>
      cases od with
      | none =>
        cases dt with
        | dict es n =>
          have h1 : (match decide (c = "dict") && (osl.isEmpty && !(a == sysModules)) with
            | true => some (es.toList.map (tabE K))
            | false => none) = some l := h
          cases z : decide (c = "dict") && (osl.isEmpty && !(a == sysModules)) with
          | false =>
            rw [z] at h1
            cases h1
          | true =>
            rw [z] at h1
            obtain ⟨z1, z2⟩ := both z
            obtain ⟨z3, z4⟩ := both z2
            have e1 : c = "dict" := of_decide_eq_true z1
            have e2 : osl = #[] := Array.isEmpty_iff.mp z3
            have e3 : (a == sysModules) = false := by
              cases y : a == sysModules with
              | false => rfl
              | true =>
                rw [y] at z4
                cases z4
            subst e1 e2
            exact ⟨es, n, rfl, Option.some.inj h1, e3⟩
        | _ => cases h
      | some b => cases dt <;> cases h
    | _ => cases od <;> cases dt <;> cases h
theorem keyV_is {v : Value} {k : Key} (h : keyV v = some k) : keyIs k v = true := by
  unfold keyV at h
  split at h
  · cases h
    exact keyIs_str _ _
  · cases h
    exact keyIs_int _ _
  · cases h
theorem keyX_inl {K : PySem.W.Frag} {v : Value} {k : Key} (h : keyX K v = some (.inl k)) : keyIs k v = true := by
  unfold keyX at h
  split at h
  · split at h
    · split at h
      · split at h <;> cases h
      · cases h
    · cases h
  · split at h
    · rename_i k0 q
      cases h
      exact keyV_is q
    · cases h
theorem keyX_inr {K : PySem.W.Frag} {v : Value} {ks : List Key} (h : keyX K v = some (.inr ks)) : ∃ (b : Addr) (o : Obj) (its : Array Value) (n : Nat), v = .ref b ∧ K.lookup b = some o ∧ o.cls = .type "tuple" ∧ o.data = .seq its n ∧ keyL its.toList = some ks := by
  unfold keyX at h
  split at h
  · rename_i b
    split at h
    · rename_i c d its n sl hL
      split at h
      · rename_i hc
        split at h
        · rename_i ks0 q
          cases h
          have hc : c = "tuple" := of_decide_eq_true hc
          subst hc
          exact ⟨_, _, its, n, rfl, hL, rfl, rfl, q⟩
        · cases h
      · cases h
    · cases h
  · split at h <;> cases h
theorem tabE_of {K : PySem.W.Frag} {e : DictEntry} {k : KeyX} {z : Int} (h : tabE K e = some (k, z)) : keyX K e.key = some k ∧ e.hash = z := by
  unfold tabE at h
  split at h
  · rename_i k0 q
    have h1 := Option.some.inj h
    obtain ⟨h2, h3⟩ := Prod.mk.inj h1
    exact ⟨by rw [q, h2], h3⟩
  · cases h
theorem kv_zip : ∀ (xs : List V) (us : List Value), relAllB xs us = true → ∀ {κ : Type} (ks : List κ), KV (ks.zip xs) (ks.zip us)
  | [], [], _, _, ks => by
    cases ks <;> exact .nil
  | x :: xs, u :: us, h, _, [] => .nil
  | x :: xs, u :: us, h, _, k :: ks => .cons ⟨rfl, He.relB_ok (both h).1⟩ (kv_zip xs us (both h).2 ks)
  | [], _ :: _, h, _, _ => by cases h
  | _ :: _, [], h, _, _ => by cases h
theorem tab_pairs {P : Program} {w : World} {K : PySem.W.Frag} : ∀ (l : List DictEntry) (ks : List Key), l.map (tabE K) = keysX w (ks.map .inl) →
    Pairs (mixKind P w) l (ks.zip (l.map (·.val))) ∧ (∀ e ∈ l, ∃ k, (mixKind P w).is k e.key = true ∧ e.hash = (mixKind P w).hash k) ∧ l.length = ks.length
  | [], [], _ => ⟨.nil, fun _ h => absurd h (by simp), rfl⟩
  | [], _ :: _, h => by cases h
  | _ :: _, [], h => by cases h
  | e :: l, k :: ks, h => by
    have h1 : tabE K e :: l.map (tabE K) = some (.inl k, hashX w (.inl k)) :: keysX w (ks.map .inl) := h
    injection h1 with h2 h3
    obtain ⟨a1, a2⟩ := tabE_of h2
    have a1 := keyX_inl a1
    obtain ⟨p1, p2, p3⟩ := tab_pairs (P := P) l ks h3
    refine ⟨.cons a1 rfl p1, fun x hx => ?_, congrArg (· + 1) p3⟩
    rcases List.mem_cons.mp hx with q | q
    · rw [q]
      exact ⟨k, a1, a2⟩
    · exact p2 x q
theorem fst_zip {α β : Type} : ∀ (ks : List α) (us : List β), us.length = ks.length → (ks.zip us).map (·.1) = ks
  | [], _, _ => by simp
  | k :: ks, [], h => by cases h
  | k :: ks, u :: us, h => by
    show k :: (ks.zip us).map (·.1) = k :: ks
    rw [fst_zip ks us (Nat.succ.inj h)]
theorem tab_ok {w : World} {K : PySem.W.Frag} {a : Addr} {ks : List Key} {xs : List V} (h : tabW K a = some (keysX w (ks.map .inl))) (hv : tabV K a xs = true) (nd : ks.Nodup) : TabAt K w a (ks.zip xs) := by
  obtain ⟨es, n, hK, he, hs⟩ := tabW_obj h
  unfold tabV at hv
  rw [hK] at hv
  have hv : relAllB xs (es.toList.map (·.val)) = true := hv
  refine ⟨hs, ks.zip (es.toList.map (·.val)), kv_zip _ _ hv ks, fun P hp hin => ?_⟩
  obtain ⟨p1, p2, p3⟩ := tab_pairs (P := P) es.toList ks he
  refine ⟨_, es, n, hin a _ hK, ⟨rfl, rfl, rfl⟩, rfl, fun e hm => p2 e (Array.mem_toList_iff.mpr hm), p1, ?_⟩
  rw [fst_zip _ _ (by rw [List.length_map]; exact p3)]
  exact nd
theorem keyL_are {P : Program} {w : World} : ∀ (l : List Value) (ks : List Key), keyL l = some ks → ItemsAre (mixKind P w) ks l
  | [], ks, h => by
    cases h
    exact .nil
  | v :: l, ks, h => by
    unfold keyL at h
    split at h
    · rename_i k ks0 q1 q2
      cases h
      exact .cons (keyV_is q1) (keyL_are l _ q2)
    · cases h
theorem tab_ents {P : Program} {w : World} {K : PySem.W.Frag} : ∀ (l : List DictEntry) (ks : List (List Key)) (ys : List V), l.map (tabE K) = keysX w (ks.map .inr) → relAllB ys (l.map (·.val)) = true →
    ∃ xs : List (List Key × Addr × Value), l = xs.map (entryOfKey (tupleKind (mixKind P w))) ∧ (∀ x ∈ xs, ∃ (o : Obj) (its : Array Value) (n : Nat), K.lookup x.2.1 = some o ∧ o.cls = .type "tuple" ∧ o.data = .seq its n ∧ keyL its.toList = some x.1) ∧ xs.map (·.1) = ks ∧ KTk (ks.zip ys) xs
  | [], [], [], _, _ => ⟨[], rfl, fun _ h => absurd h (by simp), rfl, .nil⟩
  | [], [], _ :: _, _, h => by cases h
  | [], _ :: _, _, h, _ => by cases h
  | _ :: _, [], _, h, _ => by cases h
  | _ :: _, _ :: _, [], _, h => by cases h
  | e :: l, k :: ks, y :: ys, h, hv => by
    have h1 : tabE K e :: l.map (tabE K) = some (.inr k, hashX w (.inr k)) :: keysX w (ks.map .inr) := h
    injection h1 with h2 h3
    obtain ⟨a1, a2⟩ := tabE_of h2
    obtain ⟨b, o, its, n, c1, c2, c3, c4, c5⟩ := keyX_inr a1
    have hv : (He.relB y e.val && relAllB ys (l.map (·.val))) = true := hv
    obtain ⟨xs, d1, d2, d3, d4⟩ := tab_ents (P := P) l ks ys h3 (both hv).2
    refine ⟨(k, b, e.val) :: xs, ?_, fun x hx => ?_, congrArg (k :: ·) d3, .cons ⟨rfl, He.relB_ok (both hv).1⟩ d4⟩
    · obtain ⟨eh, ek, ev⟩ := e
      have c1 : ek = .ref b := c1
      have a2 : eh = hashX w (.inr k) := a2
      rw [c1, a2, d1]
      rfl
    · rcases List.mem_cons.mp hx with q | q
      · rw [q]
        exact ⟨o, its, n, c2, c3, c4, c5⟩
      · exact d2 x q
theorem tab_okT {w : World} {K : PySem.W.Frag} {a : Addr} {ks : List (List Key)} {ys : List V} (h : tabW K a = some (keysX w (ks.map .inr))) (hv : tabV K a ys = true) (nd : ks.Nodup) : TabTAt K w a (ks.zip ys) := by
  obtain ⟨es, n, hK, he, hs⟩ := tabW_obj h
  unfold tabV at hv
  rw [hK] at hv
  have hv : relAllB ys (es.toList.map (·.val)) = true := hv
  obtain ⟨xs, d1, d2, d3, d4⟩ := tab_ents (P := default) es.toList ks ys he hv
  refine ⟨hs, xs, d4, fun P hp hin => ⟨_, es, n, hin a _ hK, ⟨rfl, rfl, rfl⟩, rfl, d1, fun x hx => ?_, by rw [d3]; exact nd⟩⟩
  obtain ⟨o, its, m, c1, c2, c3, c4⟩ := d2 x hx
  exact ⟨o, its, m, hin _ _ c1, c2, c3, keyL_are _ _ c4⟩
end

/-! ### the Hook with such dicts -/
abbrev TabX : Type := Str × List KeyX
abbrev AlX : Type := AlM × List (Option (List (Option (KeyX × Int))))
def obsX (fa : List He.Fa) (ex : Frg → Bool) (fn : List DefM) (ts : List TabX) (K : Frg) : AlX := (obsM fa ex fn K, ts.map fun t => tabW K (He.ga K t.1))
def valX (fn : List DefM) (ts : List TabX) (w : World) : AlX := (valM fn, ts.map fun t => some (keysX w t.2))
def SaysX (fa : List He.Fa) (ex : Frg → Bool) (fn : List DefM) (ts : List TabX) (w : World) (K : Frg) : Prop := obsX fa ex fn ts K = valX fn ts w
def hookX (n : Nat) (fa : List He.Fa) (ex : Frg → Bool) (fn : List DefM) (ts : List TabX) : PySem.W.Hook where
  α := AlX
  obs := fun s => obsX fa ex fn ts (frM n s.heap.get?)
  val := fun w => valX fn ts w
  says := fun w h => ∃ K : Frg, K.In h ∧ SaysX fa ex fn ts w K
  of := fun _ _ e => ⟨_, He.frG_in, e⟩
  keeps := fun _ _ _ ⟨K, hK, c⟩ k => ⟨K, PySem.W.Frag.In.keeps hK k, c⟩
theorem obsX_eq {n : Nat} {fa : List He.Fa} {ex : Frg → Bool} {fn : List DefM} {ts : List TabX} {g : Addr → Option Obj} {s : Shared} (h : ∀ a, g a = s.heap.get? a) : obsX fa ex fn ts (frM n g) = (hookX n fa ex fn ts).obs s := by
  have e : g = s.heap.get? := funext h
  subst e
  rfl
section
variable {fa : List He.Fa} {ex : Frg → Bool} {fn : List DefM} {ts : List TabX} {w : World} {K : Frg}
theorem SaysX.m (c : SaysX fa ex fn ts w K) : SaysM fa ex fn K := congrArg (fun z : AlX => z.1) c
theorem SaysX.tab (c : SaysX fa ex fn ts w K) (i : Nat) {t : TabX} (h : ts[i]? = some t) : tabW K (He.ga K t.1) = some (keysX w t.2) := by
  have e : ts.map (fun t => tabW K (He.ga K t.1)) = ts.map fun t => some (keysX w t.2) := congrArg (fun z : AlX => z.2) c
  have e2 : (ts.map fun t => tabW K (He.ga K t.1))[i]? = (ts.map fun t => some (keysX w t.2))[i]? := by rw [e]
  rw [List.getElem?_map, List.getElem?_map, h] at e2
  exact Option.some.inj e2
end
/-! ### a display of a dict asks the world one thing: both answers are run -/
def setF (w : World) (b : Bool) : World := { w with params := { w.params with followText := fun x => if x = "special-get-raises" then b else w.params.followText x } }
theorem setF_eq (w : World) : setF w (w.params.followText "special-get-raises") = w := by
  have e : (fun x => if x = "special-get-raises" then w.params.followText "special-get-raises" else w.params.followText x) = w.params.followText := by
    funext x
    by_cases h : x = "special-get-raises"
    · rw [if_pos h, h]
    · rw [if_neg h]
  show ({ w with params := { w.params with followText := fun x => if x = "special-get-raises" then w.params.followText "special-get-raises" else w.params.followText x } } : World) = w
  rw [e]

/-! ### own exceptions with one field; defs that raise -/
def oexB (K : Frg) (C : Addr) : Bool := match K.lookup C with
  | some ⟨.type t, _, .cls cd, sl⟩ => decide (t = "type") && (match cd.mro, sl.toList with
    | .ref c :: bm, [_, _, _, _, some (.builtin n), _] => decide (c = C) && (decide (n = "ValueError.__new__") && (!cd.hasDel && (cd.hasDict && PySem.HandSPX.refsVE bm)))
    | _, _ => false)
  | _ => false
theorem oexM {K : Frg} {C : Addr} (h : oexB K C = true) : ∃ nm q N bs bm sn sub ab col dd k0 k1 k2 k3 k5, K.lookup C = some (excClassObj nm q C N bs bm true sn sub ab col dd k0 k1 k2 k3 k5 "ValueError.__new__") ∧ PySem.HandSPX.refsVE bm = true := by
  unfold oexB at h
  split at h
  · rename_i t dd cd sl ho
    obtain ⟨h1, h⟩ := both h
    have h1 : t = "type" := of_decide_eq_true h1
    split at h
    · rename_i c bm k0 k1 k2 k3 n k5 hm hs
      obtain ⟨h2, h⟩ := both h
      obtain ⟨h3, h⟩ := both h
      obtain ⟨h4, h⟩ := both h
      obtain ⟨h5, h6⟩ := both h
      have h2 : c = C := of_decide_eq_true h2
      have h3 : n = "ValueError.__new__" := of_decide_eq_true h3
      obtain ⟨nm, bs, mro, ns, qn, hd, sn, sub, ab, col, del⟩ := cd
      dsimp only at hm h4 h5
      have h4 : del = false := by cases del <;> first | rfl | cases h4
      subst hm h4 h5 h1 h2 h3
      have hsl : sl = #[k0, k1, k2, k3, some (.builtin "ValueError.__new__"), k5] := by
        obtain ⟨l⟩ := sl
        simp only at hs
        rw [hs]
      subst hsl
      exact ⟨nm, qn, ns, bs, bm, sn, sub, ab, col, dd, k0, k1, k2, k3, k5, ho, h6⟩
    · cases h
  · cases h
/-- the class at C may be raised with one field f; its __init__ stands at fI -/
structure ExcK (K : Frg) (C fI : Addr) (f : Str) : Prop where
  oex : OexC K C
  ini : PySem.W.findIn K (.ref C) "__init__" = some (some (.ref fI))
  tI : PySem.W.typeIn K (.ref fI) = some (.type "function")
  no : PySem.W.findIn K (.ref C) f = some none
  xf : XfC K C
  te : PySem.W.exmOne K (.ref C) (.ref C) = some true
def exkB (K : Frg) (C fI : Addr) (f : Str) : Bool := oexB K C && (He.eqO (PySem.W.findIn K (.ref C) "__setattr__") (some (some (.builtin "object.__setattr__"))) && (decide (PySem.W.subIn K (.ref C) (.type "BaseException") = some true) &&
  (decide (PySem.W.typeIn K (.ref C) = some (.type "type")) && (PySem.W.keepIn K (.ref C) && (He.eqO (PySem.W.findIn K (.ref C) "__init__") (some (some (.ref fI))) && (decide (PySem.W.typeIn K (.ref fI) = some (.type "function")) &&
  (He.eqO (PySem.W.findIn K (.ref C) f) (some none) && (xfB K C && decide (PySem.W.exmOne K (.ref C) (.ref C) = some true)))))))))
theorem exkM {K : Frg} {C fI : Addr} {f : Str} (h : exkB K C fI f = true) : ExcK K C fI f := by
  obtain ⟨h1, h⟩ := both h
  obtain ⟨h2, h⟩ := both h
  obtain ⟨h3, h⟩ := both h
  obtain ⟨h4, h⟩ := both h
  obtain ⟨h5, h⟩ := both h
  obtain ⟨h6, h⟩ := both h
  obtain ⟨h7, h⟩ := both h
  obtain ⟨h8, h⟩ := both h
  obtain ⟨h9, h10⟩ := both h
  exact ⟨⟨oexM h1, He.eqO_ok h2, of_decide_eq_true h3, of_decide_eq_true h4, h5⟩, He.eqO_ok h6, of_decide_eq_true h7, He.eqO_ok h8, xfB_ok h9, of_decide_eq_true h10⟩
/-- __init__(self, f): self.f = f -/
def spExc (K : Frg) (f : Str) : Sp := fun vs H Q _ => ∃ (a C : Addr) (v : V), vs = [.ref a, v] ∧ OexC K C ∧ PySem.W.findIn K (.ref C) f = some none ∧ H a = some (exo a C none) ∧
  ∀ dx, H dx = none → dx ≠ a → Q .non (upd (upd H dx (exd dx [(f, v)])) a (exo a C (some dx)))
/-- an exception class of this name, ready to be raised -/
structure Raz (P : Program) (w : World) (K : Frg) (mg : Str → Option Value) (base : Heap) (x : Str) (C : Addr) (f : Str) : Prop where
  ex : ∃ (fI : Addr) (fd : FuncData), ExcK K C fI f ∧ mg x = some (.ref C) ∧ FnOk P w K mg base CX0 1 fI fd ["self", f] (spExc K f) ∧ Binds K fd ["self", f] []
/-- a def that may raise -/
structure CalX (P : Program) (w : World) (K : Frg) (mg : Str → Option Value) (base : Heap) (k : Nat) (x : Str) (sp : Sp) : Prop where
  ex : ∃ (f : Addr) (fd : FuncData) (ps : List Str), FnOk P w K mg base (L2.CX P w) k f fd ps sp ∧ mg x = some (.ref f) ∧ PySem.W.keepIn K (.ref f) = true ∧ Binds K fd ps []
/-- .. a method -/
structure MetX (P : Program) (w : World) (K : Frg) (mg : Str → Option Value) (base : Heap) (k : Nat) (C : Addr) (m : Str) (sp : Sp) : Prop where
  ex : ∃ (f : Addr) (fd : FuncData) (ps : List Str), Cls K C ∧ Meth K C m f ∧ FnOk P w K mg base (L2.CX P w) k f fd ps sp ∧ Binds K fd ps []
section
variable {P : Program} {w : World} {K : Frg} {mg : Str → Option Value} {base : Heap} {x qual : Str} {params : Arguments} {body : List Stmt} {scope : Scope} {f : Addr} {fd : FuncData} {N ps : List Str} {k : Nat} {sp : Sp} {C : Addr}
theorem calXD (F : FunD K x qual params body scope [] [] f fd) (m : mg x = some (.ref f)) (S : FnScope N ps scope)
    (hb : ∀ (kV doc pm : Value) (an : Option Addr) (cdv ct : Value) (us : List Value), us.length = ps.length → bindArgs (PySem.W.fnOf x qual params body scope .none kV doc pm an cdv ct) ⟨us, []⟩ = pure (ps.zip us))
    (len : ∀ vs H Q E, sp vs H Q E → vs.length = ps.length)
    (hbody : ∀ (cdv : Value) (A : Around) (outer : List Env) (s : Shared) (H : Hp) (vs : List V) (Q : VK) (E : XK), Room k (A.deeper (envOfC qual scope s.heap.objs.size f cdv)) → sp vs H Q E →
      ∃ t, PSs (cxOf (L2.CX P w) P w K mg base N qual scope f cdv A outer s H E) body t ∧ t { nx := fun _ H' => Q .non H', rt := Q } (start N vs) H) : CalX P w K mg base (k + 1) x sp :=
  ⟨f, fd, ps, F.ok S len hbody, m, F.kp, F.bindsN hb⟩
theorem metXD (F : FunD K x qual params body scope [] [] f fd) (cl : Cls K C) (me : Meth K C x f) (S : FnScope N ps scope)
    (hb : ∀ (kV doc pm : Value) (an : Option Addr) (cdv ct : Value) (us : List Value), us.length = ps.length → bindArgs (PySem.W.fnOf x qual params body scope .none kV doc pm an cdv ct) ⟨us, []⟩ = pure (ps.zip us))
    (len : ∀ vs H Q E, sp vs H Q E → vs.length = ps.length)
    (hbody : ∀ (cdv : Value) (A : Around) (outer : List Env) (s : Shared) (H : Hp) (vs : List V) (Q : VK) (E : XK), Room k (A.deeper (envOfC qual scope s.heap.objs.size f cdv)) → sp vs H Q E →
      ∃ t, PSs (cxOf (L2.CX P w) P w K mg base N qual scope f cdv A outer s H E) body t ∧ t { nx := fun _ H' => Q .non H', rt := Q } (start N vs) H) : MetX P w K mg base (k + 1) C x sp :=
  ⟨f, fd, ps, cl, me, F.ok S len hbody, F.bindsN hb⟩
end
def tMethS (C : Addr) (m : Str) (sp : Sp) (E : St → XK) (ta : TE) (t : TA) : TE := fun σ H Q => ta σ H fun x H1 => ∃ a dx fs, x = .ref a ∧ H1 a = some (.ins C dx fs) ∧ fs.lookup m = none ∧ t σ H1 fun vs H2 => sp (x :: vs) H2 Q (E σ)
section
variable {X : Cx} {k j : Nat} {C : Addr} {x m : Str} {sp : Sp} {W : WX} {p pos apos pos2 : Pos} {e o : Expr} {es : List Expr} {ta : TE} {t : TA}
theorem pe_cX (c : CalX X.prog X.w X.K X.mg X.base k x sp) (hr : Room j X.A) (hk : k ≤ j) (hg : Gl X x) (tk : Takes X W) (ha : PA X (e :: es) t)
    (hdb : (x == ("__debug__" : Str)) = false := by decide) (he : starEach (e :: es) X.env = (false, eval e X.env) :: starEach es X.env := by rfl) (hpl : (backTo pos (starEach es X.env)).any (·.1) = false := by rfl) :
    PE X (.Call (.Name x p) (e :: es) [] pos) (tCallS sp (WE W) t) := by
  obtain ⟨f, fd, ps, F, hm, kp, b⟩ := c.ex
  exact pe_callS F (hr.mono hk) hg hm kp b (fun σ => passAt tk σ) ha hdb he hpl
theorem pe_mtX {pl : Sem Bool} (c : MetX X.prog X.w X.K X.mg X.base k C m sp) (hr : Room j X.A) (hk : k ≤ j) (tk : Takes X W) (he : PE X o ta) (ha : PA X (e :: es) t)
    (hst : starEach (e :: es) X.env = (false, eval e X.env) :: starEach es X.env := by rfl) (hpl : (backTo pos (starEach es X.env)).any (·.1) = false := by rfl)
    (ht : eval (.Call (.Attribute o m apos) (e :: es) [] pos) X.env = (do
      let ov ← eval o X.env
      standAt apos.atName
      let (f, first) ← holding [ov] (getMethod ov m pl)
      callWith pos f first (backTo pos (starEach (e :: es) X.env)) (backToKw pos (keywordEach [] X.env))) := by rfl) :
    PE X (.Call (.Attribute o m apos) (e :: es) [] pos) (tMethS C m sp (WE W) ta t) := by
  obtain ⟨f, fd, ps, hc, hm, F, b⟩ := c.ex
  refine ⟨fun pins s σ H Q I h => ?_⟩
  refine PySem.W.methodCall_KW (pl := pl) (thn (he.run pins s σ H _ I h) fun u s1 ⟨x, H1, I1, rx, a, dx, fs, ex, ea, l, q⟩ => ?_) ht
  subst ex
  obtain rfl : u = Value.ref a := rx
  refine getmeth_ok I1 ea hc hm l ?_
  refine PySem.W.callWith_K (first := [.ref a]) (h₀ := X.base) I.ok.mod.kin hm.kp (thn (ha.run pos pins s1 σ H1 _ I1 q) fun us s2 ⟨vs, H2, I2, r, q2⟩ => ⟨I2.kIn, ?_⟩) hst hpl
  exact run_fnS (us := .ref a :: us) (vs := .ref a :: vs) F (hr.mono hk) b (passAt tk σ) I2 (.cons rfl r) q2
theorem pe_mtX0 {pl : Sem Bool} (c : MetX X.prog X.w X.K X.mg X.base k C m sp) (hr : Room j X.A) (hk : k ≤ j) (tk : Takes X W) (he : PE X o ta)
    (ht : eval (.Call (.Attribute o m apos) [] [] pos) X.env = (do
      let ov ← eval o X.env
      standAt apos.atName
      let (f, first) ← holding [ov] (getMethod ov m pl)
      callWith pos f first (backTo pos (starEach [] X.env)) (backToKw pos (keywordEach [] X.env))) := by rfl) :
    PE X (.Call (.Attribute o m apos) [] [] pos) (tMethS C m sp (WE W) ta tNil) := by
  obtain ⟨f, fd, ps, hc, hm, F, b⟩ := c.ex
  refine ⟨fun pins s σ H Q I h => ?_⟩
  refine PySem.W.methodCall_KW (pl := pl) (thn (he.run pins s σ H _ I h) fun u s1 ⟨x, H1, I1, rx, a, dx, fs, ex, ea, l, q⟩ => ?_) ht
  subst ex
  obtain rfl : u = Value.ref a := rx
  refine getmeth_ok I1 ea hc hm l ?_
  exact PySem.W.callWith_K0 (first := [.ref a]) I1.kIn hm.kp (run_fnS (us := [.ref a]) (vs := [.ref a]) F (hr.mono hk) b (passAt tk σ) I1 (.cons rfl .nil) q)
def tWeak (te : TE) : TE := fun σ H Q => ∃ Q' : VK, te σ H Q' ∧ ∀ v H1, Q' v H1 → Q v H1
theorem pe_weak (he : PE X e ta) : PE X e (tWeak ta) := ⟨fun pins s σ H Q I ⟨Q', h, m⟩ => wpAny_mono (he.run pins s σ H Q' I h) (fun _ _ ⟨v, H1, I1, r, q⟩ => ⟨v, H1, I1, r, m v H1 q⟩) fun _ _ z => z⟩
/-- raise C(e), C with one field -/
def tRaz (C : Addr) (f : Str) (W : WX) (te : TE) : TS := fun _ σ H => te σ H fun v H1 => ∀ d, H1 d = none → W (.ref C) (some d) σ (upd H1 d (.xd [(f, v)]))
theorem ps_raz {f : Str} (r : Raz X.prog X.w X.K X.mg X.base x C f) (hc : X.calm = true) (hr : Room j X.A) (hk : 2 ≤ j) (hg : Gl X x) (tk : Takes X W) (he : PE X e ta)
    (hdb : (x == ("__debug__" : Str)) = false := by decide) (hs : starEach (e :: []) X.env = (false, eval e X.env) :: starEach [] X.env := by rfl) (hpl : (backTo pos (starEach [] X.env)).any (·.1) = false := by rfl) :
    PS X (.Raise (some (.Call (.Name x p) [e] [] pos)) none pos2) (tRaz C f W ta) := by
  obtain ⟨fI, fd, T, hm, F, b⟩ := r.ex
  have he2 : PE X e (tWeak ta) := pe_weak he
  have z := ps_raise (pos := pos2) hc tk (pmk_oex (p := p) (pos := pos) T.oex T.ini T.tI F (hr.mono hk) b .nil pass0 hg hm (pa_cons he2 pa_nil hs) hdb hs hpl)
  refine ⟨fun pins s σ H D I h => z.run pins s σ H D I ?_⟩
  refine ⟨_, h, fun v H1 q => ⟨by show 1 ≤ 1000; decide, fun a ha => ⟨a, C, v, rfl, T.oex, T.no, upd_same, fun dx hd hne => ⟨rfl, dx, [(f, v)], upd_same, ?_, ?_, ?_⟩⟩⟩⟩
  · rw [upd_ne hne, upd_same]
  · rw [upd_ne hne] at hd
    exact hd
  · rw [upd_ne hne] at hd
    have e : upd (del (upd (upd (upd H1 a (exo a C none)) dx (exd dx [(f, v)])) a (exo a C (some dx))) a) dx (.xd [(f, v)]) = upd H1 dx (.xd [(f, v)]) := by
      funext b
      by_cases hb : b = dx
      · rw [hb, upd_same, upd_same]
      · rw [upd_ne hb, upd_ne hb]
        by_cases hba : b = a
        · rw [hba, del_same, ha]
        · rw [del_ne hba, upd_ne hba, upd_ne hb, upd_ne hba]
    rw [e]
    exact q dx hd
end
section
variable {σ : St} {H : Hp} {D : Ends} {Q : VK} {C a : Addr} {K : Frg} {f m : Str} {W : WX} {te to ta : TE} {t : TA} {sp : Sp} {E : St → XK} {n : St → Hp → Prop} {r : VK} {b c : St → Hp → Prop} {cls : Value} {d : Option Addr}
theorem r_raz (h : te σ H fun v H1 => ∀ d, H1 d = none → W (.ref C) (some d) σ (upd H1 d (.xd [(f, v)]))) : tRaz C f W te D σ H := h
theorem r_ost (h : te σ H fun y H1 => to σ H1 fun x H2 => ∃ a C : Addr, x = .ref a ∧ OexC K C ∧ PySem.W.findIn K (.ref C) f = some none ∧
  ((H2 a = some (exo a C none) ∧ ∀ dx, H2 dx = none → dx ≠ a → n σ (upd (upd H2 dx (exd dx [(f, y)])) a (exo a C (some dx)))) ∨
    ∃ (dx : Addr) (fs : List (Str × V)), H2 a = some (exo a C (some dx)) ∧ H2 dx = some (exd dx fs) ∧ fs.length ≤ 900 ∧ n σ (upd H2 dx (exd dx ((f, y) :: fs))))) : tOst K f to te ⟨n, r, b, c⟩ σ H := h
theorem r_callS (h : t σ H fun vs H1 => sp vs H1 Q (E σ)) : tCallS sp E t σ H Q := h
theorem r_methS (h : ta σ H fun x H1 => ∃ a dx fs, x = .ref a ∧ H1 a = some (.ins C dx fs) ∧ fs.lookup m = none ∧ t σ H1 fun vs H2 => sp (x :: vs) H2 Q (E σ)) : tMethS C m sp E ta t σ H Q := h
theorem r_xf (h : te σ H fun x H1 => x = .ref a ∧ cls = .ref C ∧ ∃ (dd : Addr) (fs : List (Str × V)) (v : V), d = some dd ∧ H1 dd = some (.xd fs) ∧ fs.lookup f = some v ∧ Q v H1) : tXf a cls d C f te σ H Q := h
end
section
variable {P : Program} {w : World} {K : Frg} {mg : Str → Option Value} {base : Heap} {params : Arguments} {body : List Stmt} {scope : Scope} {f : Addr} {fd : FuncData} {x : Str} {C : Addr}
/-- an exception class from what the top wrote -/
theorem razM {n qual : Str} {dv : V} (F : FunD K "__init__" qual params body scope [dv] [] f fd) (S : FnScope ["self", n] ["self", n] scope) (T : ExcK K C f n) (m : mg x = some (.ref C))
    (h : ∀ (Tt : Addr) (kV doc pm : Value) (an : Option Addr) (cdv ct : Value) (us its : List Value), us.length = 2 → its.length = 1 →
      ∃ k, bindArgs (PySem.W.fnOf "__init__" qual params body scope (.ref Tt) kV doc pm an cdv ct) ⟨us, []⟩ = seqItems? (.ref Tt) >>= k ∧ k (some its.toArray) = pure ((["self", n] : List Str).zip (us ++ its.drop 1)))
    (hbody : ∀ (cdv : Value) (A : Around) (outer : List Env) (s : Shared) (H : Hp) (E : XK), PSs (cxOf CX0 P w K mg base ["self", n] qual scope f cdv A outer s H E).nox body (tOst K n (tVar 0) (tVar 1))) : Raz P w K mg base x C n := by
  obtain ⟨ds, r, b⟩ := F.binds1 2 1 (List.cons_ne_nil _ _) rfl h
  have e : ds = [] := by
    cases r
    rfl
  subst e
  refine ⟨f, fd, T, m, F.ok S (fun vs H Q E hs => ?_) fun cdv A outer s H vs Q E hr hs => ?_, b⟩
  · obtain ⟨_, _, _, rfl, _⟩ := hs
    rfl
  · obtain ⟨a, C', v, rfl, T', no, ea, q⟩ := hs
    refine ⟨_, (hbody cdv A outer s H E).nox, ?_⟩
    exact ⟨_, rfl, _, rfl, a, C', rfl, T', no, .inl ⟨ea, q⟩⟩
end
section
variable {X : Cx} {x n : Str} {c : Value} {i : Nat} {body suite : List Stmt} {b₀ : Stmt} {np pos pos' : Pos} {tb : WX → TS} {ts : Addr → Value → Option Addr → TS} {Wout : WX}
/-- ps_try_as, the readings told behind the bodies (so that the elaborator sees the statements first) -/
theorem ps_try_asE (hs : X.stack = X.env :: X.outer) (hf : X.env.frame = some X.env.locals) (hN : X.N.Nodup) (hi : X.N[i]? = some n) (hln : X.env.kindOf n = some .local) (hc : Names X x c) (tk : Takes X Wout)
    (hb : ∀ (W : WX) (pn : List (Addr × Obj)) (xe : Value → Shared → Prop), Takes (X.tr pn xe) W → PassesOwn (model X.prog X.w) X.A X.env xe → ∃ t, PSs (X.tr pn xe) body t ∧ t = tb W)
    (hsu : ∀ (a : Addr) (oe : Obj) (cls : Value) (d : Option Addr) (pn : List (Addr × Obj)), Zc cls d oe → (∃ vs, oe.data = .fields vs) → ∃ t, PSs (X.suite a ((a, oe) :: pn)) (b₀ :: suite) t ∧ t = ts a cls d) :
    PS X (.Try body [.ExceptHandler (some (.Name x np)) (some n) (b₀ :: suite) pos'] [] [] pos) (fun D σ H => tb (wAs X.K c i ts Wout D) D σ H) :=
  ps_try_as hs hf hN hi hln hc tk (fun W pn xe h1 h2 => by
    obtain ⟨t, p, e⟩ := hb W pn xe h1 h2
    rw [← e]
    exact p) fun a oe cls d pn h1 h2 => by
    obtain ⟨t, p, e⟩ := hsu a oe cls d pn h1 h2
    rw [← e]
    exact p
end
theorem pi_listK {X : Cx} {tg l : Expr} {tl : TE} {K : Frg} (e : X.K = K) (hl : PE X l tl) : PI X tg l (iList K tl) := by
  rw [← e]
  exact pi_list hl

/-! ### isinstance of a caught error that has a field -/
structure IsxC (K : Frg) (D : Addr) : Prop where
  xf : XfC K D
  ha : PySem.W.findIn K (.ref D) "__class__" = some (some (.builtin "object.__class__"))
  hn : PySem.W.specialIn K (.builtin "object.__class__") "__get__" = some (some (.builtin "getset_descriptor.__get__"))
  ht : PySem.W.takesIn K (.builtin "object.__class__") = some true
  hm : PySem.W.mroIn K D (.type "object") = some true
def isxB (K : Frg) (D : Addr) : Bool := xfB K D && (decide (PySem.W.findIn K (.ref D) "__class__" = some (some (.builtin "object.__class__"))) && (decide (PySem.W.specialIn K (.builtin "object.__class__") "__get__" = some (some (.builtin "getset_descriptor.__get__"))) && (decide (PySem.W.takesIn K (.builtin "object.__class__") = some true) && decide (PySem.W.mroIn K D (.type "object") = some true))))
theorem isxM {K : Frg} {D : Addr} (h : isxB K D = true) : IsxC K D := by
  obtain ⟨h1, h⟩ := both h
  obtain ⟨h2, h⟩ := both h
  obtain ⟨h3, h⟩ := both h
  obtain ⟨h4, h5⟩ := both h
  exact ⟨xfB_ok h1, of_decide_eq_true h2, of_decide_eq_true h3, of_decide_eq_true h4, of_decide_eq_true h5⟩
def rIsX (K : Frg) (a : Addr) (cls : Value) (d : Option Addr) : List V → Hp → VK → Prop := fun xs H Q => ∃ (C D dd : Addr) (fs : List (Str × V)) (b : Bool), xs = [.ref a, .ref C] ∧ cls = .ref D ∧ d = some dd ∧ H dd = some (.xd fs) ∧ IsxC K D ∧ PySem.W.kitOne K (.ref D) (.ref C) = some b ∧ Q (.bl b) H
theorem call_isX {X : Cx} {a : Addr} {cls : Value} {d : Option Addr} {oe : Obj} {pn : List (Addr × Obj)} (hz : Zc cls d oe) (hf : ∃ vs, oe.data = .fields vs) : CallR (X.suite a ((a, oe) :: pn)) (.builtin "isinstance") (rIsX X.K a cls d) := by
  intro pins s σ H xs us Q I r h
  obtain ⟨C, D, dd, fs, b, rfl, rfl, rfl, ea, T, e, q⟩ := h
  cases r with
  | cons rx rr =>
    cases rr with
    | cons rt rr =>
      cases rr
      cases rx
      cases rt
      obtain ⟨hget, _⟩ := I.pin (a, oe) (List.mem_append_left _ List.mem_cons_self)
      obtain ⟨vs, hv⟩ := hf
      have hx : ObjOk X.prog X.w H s.heap dd (.xd fs) := I.hok dd _ ea
      obtain ⟨mA, hns, _⟩ := hx
      obtain ⟨od, ho, _⟩ := lookIn_ns hns
      have J : PySem.W.InstAt s.heap a oe D (some od) := ⟨hget, hz.1, by unfold PySem.W.notCls; rw [hv] <;> rfl, by rw [hz.2]; exact ho⟩
      have ic : (PySem.W.clsIn X.K D).isSome = true := by
        have q := T.xf.hdC
        unfold PySem.W.hasDictIn at q
        cases z : PySem.W.clsIn X.K D with
        | some c => rfl
        | none => rw [z] at q; cases q
      exact PySem.W.kia_one (PySem.W.kitx_exc ic T.xf.ga T.xf.gg T.xf.exC T.ha T.hn T.ht T.hm) I.kIn J e (fun z => nomatch z) fun tk => ⟨.bl b, H, I.kept (t' := tk) fun _ _ z => z, rfl, q⟩

/-! ### the Hook over addresses that are written down -/
def hookY (l : List Addr) (fa : List He.Fa) (ex : Frg → Bool) (fn : List DefM) (ts : List TabX) : PySem.W.Hook where
  α := AlX
  obs := fun s => obsX fa ex fn ts (He.frG s.heap.get? l)
  val := fun w => valX fn ts w
  says := fun w h => ∃ K : Frg, K.In h ∧ SaysX fa ex fn ts w K
  of := fun _ _ e => ⟨_, He.frG_in, e⟩
  keeps := fun _ _ _ ⟨K, hK, c⟩ k => ⟨K, PySem.W.Frag.In.keeps hK k, c⟩
theorem obsY_eq {l : List Addr} {fa : List He.Fa} {ex : Frg → Bool} {fn : List DefM} {ts : List TabX} {g : Addr → Option Obj} {s : Shared} (h : ∀ a, g a = s.heap.get? a) : obsX fa ex fn ts (He.frG g l) = (hookY l fa ex fn ts).obs s := by
  have e : g = s.heap.get? := funext h
  subst e
  rfl
/-- the same for a program without such dicts -/
def hookZ (l : List Addr) (fa : List He.Fa) (ex : Frg → Bool) (fn : List DefM) : PySem.W.Hook where
  α := AlM
  obs := fun s => obsM fa ex fn (He.frG s.heap.get? l)
  val := fun _ => valM fn
  says := fun _ h => ∃ K : Frg, K.In h ∧ SaysM fa ex fn K
  of := fun _ _ e => ⟨_, He.frG_in, e⟩
  keeps := fun _ _ _ ⟨K, hK, c⟩ k => ⟨K, PySem.W.Frag.In.keeps hK k, c⟩
theorem obsZ_eq {l : List Addr} {fa : List He.Fa} {ex : Frg → Bool} {fn : List DefM} {g : Addr → Option Obj} {s : Shared} (h : ∀ a, g a = s.heap.get? a) : obsM fa ex fn (He.frG g l) = (hookZ l fa ex fn).obs s := by
  have e : g = s.heap.get? := funext h
  subst e
  rfl
/-- the look at the defs in two halves -/
theorem run_join {r : PySem.W.OpenRow} {q : Program} {l : List Addr} {fa : List He.Fa} {ex : Frg → Bool} {fn1 fn2 : List DefM} {ts : List TabX} {M : Nat} {loose : List PySem.Str} {w : World}
    (h1 : HandSHeadRun.RunEq r q (hookY l fa ex fn1 ts) (fun s => obsX fa ex fn1 ts (He.frG (HandSHeadRun.getT s) l)) M loose w)
    (h2 : HandSHeadRun.RunEq r q (hookY l [] (fun _ => true) fn2 []) (fun s => obsX [] (fun _ => true) fn2 [] (He.frG (HandSHeadRun.getT s) l)) M loose w) :
    HandSHeadRun.RunEq r q (hookY l fa ex (fn1 ++ fn2) ts) (fun s => obsX fa ex (fn1 ++ fn2) ts (He.frG (HandSHeadRun.getT s) l)) M loose w := by
  intro os
  have e1 := h1 os
  have e2 := h2 os
  generalize HandSHeadRun.endF (HandSHeadRun.stepQ (HandSHeadRun.denQ HandSHeadRun.tabQ) r.prog w) M r.prog w os = o at e1 e2 ⊢
  cases o with
  | none => cases e1
  | some s =>
    have a1 := Option.some.inj e1
    have a2 := Option.some.inj e2
    have b1 := congrArg (fun z => z.2.2) a1
    have b2 := congrArg (fun z => z.2.2) a2
    have c1 := congrArg (fun z => z.1) a1
    have c2 := congrArg (fun z => z.2.1) a1
    have b1 : obsX fa ex fn1 ts (He.frG (HandSHeadRun.getT s) l) = valX fn1 ts w := b1
    have b2 : obsX [] (fun _ => true) fn2 [] (He.frG (HandSHeadRun.getT s) l) = valX fn2 [] w := b2
    generalize hK : He.frG (HandSHeadRun.getT s) l = K at b1 b2
    have d : obsX fa ex (fn1 ++ fn2) ts K = valX (fn1 ++ fn2) ts w := by
      have m1 := congrArg (fun z : AlX => z.1.1) b1
      have m2 := congrArg (fun z : AlX => z.1.2) b1
      have m3 := congrArg (fun z : AlX => z.2) b1
      have n1 := congrArg (fun z : AlX => z.1.1) b2
      have n2 := congrArg (fun z : AlX => z.1.2) b2
      have m1 : ((fa.all fun x => x.ok K) && (ex K && fn1.all fun d => okM K d)) = true := m1
      have m2 : (fn1.map fun d => seeM K d) = fn1.map dueM := m2
      have n1 : (([] : List He.Fa).all (fun x => x.ok K) && (true && fn2.all fun d => okM K d)) = true := n1
      have n2 : (fn2.map fun d => seeM K d) = fn2.map dueM := n2
      have n1 : (fn2.all fun d => okM K d) = true := n1
      simp only [Bool.and_eq_true] at m1
      show ((((fa.all fun x => x.ok K) && (ex K && (fn1 ++ fn2).all fun d => okM K d)), (fn1 ++ fn2).map fun d => seeM K d), _) = ((true, (fn1 ++ fn2).map dueM), _)
      rw [List.all_append, List.map_append, List.map_append, m2, n2, m1.1, m1.2.1, m1.2.2, n1]
      exact congrArg _ m3
    rw [← hK] at d
    exact congrArg some (Prod.ext c1 (Prod.ext c2 d))

/-! ### lambdas: their makers' code objects and the tables of these -/
def codeAt (K : Frg) (f : Addr) : Addr := match K.lookup f with
  | some ⟨_, _, .func fd, _⟩ => (match fd.code with
    | .ref c => c
    | _ => 0)
  | _ => 0
def tabAt (K : Frg) (q : Str) : Addr := He.tabOf K (codeAt K (glAd q K))
theorem codeAt_of {K : Frg} {f : Addr} {oc : Value} {od : Option Addr} {osl : Array (Option Value)} {fd : FuncData} {c : Addr} (lk : K.lookup f = some ⟨oc, od, .func fd, osl⟩) (e : fd.code = .ref c) : codeAt K f = c := by
  unfold codeAt
  rw [lk]
  show (match fd.code with | .ref c => c | _ => 0) = c
  rw [e]
/-- the table is empty, written down nowhere -/
structure LamsAt (qs : List Str) (h : Heap) (K : Frg) : Prop where
  hd : ∀ q ∈ qs, PySem.W.codeHdIn K (codeAt K (glAd q K)) (tabAt K q) = true
  out : ∀ q ∈ qs, K.lookup (tabAt K q) = none
  empty : ∀ q ∈ qs, h.get? (tabAt K q) = some { cls := .none, data := .fields #[] }
  nd : (qs.map (tabAt K)).Nodup
def isEmp : Option Obj → Bool
  | some o => He.emptyTab o
  | none => false
def lamsB (qs : List Str) (g : Addr → Option Obj) (K : Frg) : Bool := (qs.all fun q => PySem.W.codeHdIn K (codeAt K (glAd q K)) (tabAt K q) && isEmp (g (tabAt K q))) && decide (qs.map (tabAt K)).Nodup
theorem lams_of {qs : List Str} {h : Heap} {as : List Addr} (e : lamsB qs h.get? (He.frT h.get? as) = true) : LamsAt qs h (He.frT h.get? as) := by
  obtain ⟨e1, e2⟩ := Bool.and_eq_true_iff.mp e
  have key : ∀ q ∈ qs, PySem.W.codeHdIn (He.frT h.get? as) (codeAt (He.frT h.get? as) (glAd q (He.frT h.get? as))) (tabAt (He.frT h.get? as) q) = true ∧ ∃ o, h.get? (tabAt (He.frT h.get? as) q) = some o ∧ He.emptyTab o = true := fun q hq => by
    obtain ⟨h3, h4⟩ := Bool.and_eq_true_iff.mp (List.all_eq_true.mp e1 q hq)
    refine ⟨h3, ?_⟩
    cases z : h.get? (tabAt (He.frT h.get? as) q) with
    | none =>
      rw [z] at h4
      cases h4
    | some o =>
      rw [z] at h4
      exact ⟨o, rfl, h4⟩
  exact ⟨fun q hq => (key q hq).1, fun q hq => by
    obtain ⟨_, o, z, m⟩ := key q hq
    exact He.frT_none z m, fun q hq => by
    obtain ⟨_, o, z, m⟩ := key q hq
    rw [z, He.emptyTab_eq m], of_decide_eq_true e2⟩
def frMT (n : Nat) (g : Addr → Option Obj) : Frg := He.frT g (cStatics :: He.asD g n)
abbrev AlMT : Type := AlM × Bool
def obsMT (fa : List He.Fa) (ex : Frg → Bool) (fn : List DefM) (qs : List Str) (g : Addr → Option Obj) (K : Frg) : AlMT := (obsM fa ex fn K, lamsB qs g K)
def hookMT (n : Nat) (fa : List He.Fa) (ex : Frg → Bool) (fn : List DefM) (qs : List Str) : PySem.W.Hook where
  α := AlMT
  obs := fun s => obsMT fa ex fn qs s.heap.get? (frMT n s.heap.get?)
  val := fun _ => (valM fn, true)
  says := fun _ h => ∃ K : Frg, K.In h ∧ SaysM fa ex fn K ∧ LamsAt qs h K
  of := fun _ _ e => ⟨_, He.frT_in, congrArg (fun z : AlMT => z.1) e, lams_of (congrArg (fun z : AlMT => z.2) e)⟩
  keeps := fun _ _ _ ⟨K, hK, c, l⟩ k => ⟨K, PySem.W.Frag.In.keeps hK k, c, ⟨l.hd, l.out, fun q hq => k _ _ (l.empty q hq), l.nd⟩⟩
theorem obsMT_eq {n : Nat} {fa : List He.Fa} {ex : Frg → Bool} {fn : List DefM} {qs : List Str} {g : Addr → Option Obj} {s : Shared} (h : ∀ a, g a = s.heap.get? a) : obsMT fa ex fn qs g (frMT n g) = (hookMT n fa ex fn qs).obs s := by
  have e : g = s.heap.get? := funext h
  subst e
  rfl
def lamQ (q : Str) : Str := (q ++ ".<locals>.") ++ "<lambda>"
/-- the tables, and the lambdas' names in them -/
def tbsOf (K : Frg) (qs : List Str) : List (Addr × Str) := qs.map fun q => (tabAt K q, lamQ q)
def csOf (K : Frg) (qs : List Str) : List (Addr × Addr) := qs.map fun q => (codeAt K (glAd q K), tabAt K q)
theorem tbs_one {K : Frg} : ∀ {qs : List Str}, (qs.map (tabAt K)).Nodup → ∀ {q : Str}, q ∈ qs → ∀ p ∈ tbsOf K qs, p.1 = tabAt K q → p.2 = lamQ q
  | x :: qs, nd, q, hq, p, hp, e => by
    rw [List.map_cons, List.nodup_cons] at nd
    have hp : p ∈ (tabAt K x, lamQ x) :: tbsOf K qs := hp
    rcases List.mem_cons.mp hp with z | z
    · rcases List.mem_cons.mp hq with y | y
      · rw [z, y]
      · rw [z] at e
        exact absurd (List.mem_map.mpr ⟨q, y, e.symm⟩) nd.1
    · rcases List.mem_cons.mp hq with y | y
      · obtain ⟨r, hr, rfl⟩ := List.mem_map.mp z
        rw [y] at e
        exact absurd (List.mem_map.mpr ⟨r, hr, e⟩) nd.1
      · exact tbs_one nd.2 y p z e
theorem tbs_mem {K : Frg} {qs : List Str} {q : Str} (h : q ∈ qs) : (tabAt K q, lamQ q) ∈ tbsOf K qs := List.mem_map.mpr ⟨q, h, rfl⟩
theorem tbs_at {K : Frg} {qs : List Str} {H : Hp} (h : ∀ p ∈ csOf K qs, H p.2 = some (.tbl #[])) : LamX.Tabs (tbsOf K qs) H := fun p hp => by
  obtain ⟨q, hq, rfl⟩ := List.mem_map.mp hp
  exact LamX.TabS.nil (h _ (List.mem_map.mpr ⟨q, hq, rfl⟩))
/-- a def that makes a lambda: its code object is known -/
theorem calDT {P : Program} {w : World} {K : PySem.W.Frag} {mg : Str → Option Value} {base : Heap} {x qual : Str} {params : Arguments} {body : List Stmt} {scope : Scope} {f : Addr} {fd : FuncData} {N ps : List Str} {k : Nat} {sp : Sp}
    (F : FunD K x qual params body scope [] [] f fd) (m : mg x = some (.ref f)) (S : FnScope N ps scope)
    (hb : ∀ (kV doc pm : Value) (an : Option Addr) (cdv ct : Value) (us : List Value), us.length = ps.length → bindArgs (PySem.W.fnOf x qual params body scope .none kV doc pm an cdv ct) ⟨us, []⟩ = pure (ps.zip us))
    (len : ∀ vs H Q E, sp vs H Q E → vs.length = ps.length)
    (hbody : ∀ (cdv : Value) (hc : cdv = .ref (codeAt K f)) (A : Around) (outer : List Env) (s : Shared) (H : Hp) (vs : List V) (Q : VK) (E : XK), Room k (A.deeper (envOfC qual scope s.heap.objs.size f cdv)) → sp vs H Q E →
      ∃ t, PSs (cxOf CX0 P w K mg base N qual scope f cdv A outer s H E).nox body t ∧ t { nx := fun _ H' => Q .non H', rt := Q } (start N vs) H) : Cal P w K mg base (k + 1) x sp [] := by
  obtain ⟨oc, od, dV, kV, doc, pm, an, cdv, ct, osl, e, lk, hcd, _, _⟩ := F.ex
  obtain ⟨c, hc⟩ := He.codeIn_ref hcd
  have hk : cdv = .ref (codeAt K f) := by rw [hc, codeAt_of lk (by rw [e]; exact hc)]
  refine ⟨f, fd, ps, [], ?_, m, F.kp, F.bindsN hb, .nil⟩
  subst e
  exact fn_of lk hcd S len fun A outer s H vs Q E hr hsp => by
    obtain ⟨t, h1, h2⟩ := hbody cdv hk A outer s H vs Q E hr hsp
    exact ⟨t, h1.nox, h2⟩

/-! ### own classes: made, their fields and methods -/
theorem lk_hit (k : Str) (v : V) (r : List (Str × V)) : List.lookup k ((k, v) :: r) = some v := by simp [List.lookup]
theorem lk_miss {k a : Str} {v : V} {r : List (Str × V)} (h : (a == k) = false) : List.lookup a ((k, v) :: r) = List.lookup a r := by
  show (match a == k with
    | true => some v
    | false => List.lookup a r) = _
  rw [h]
theorem pf_nil (k : Str) (v : V) : putF k v [] = [(k, v)] := rfl
theorem pf_hit (k : Str) (v x : V) (r : List (Str × V)) : putF k v ((k, x) :: r) = (k, v) :: r := if_pos rfl
theorem pf_miss {k g : Str} {v x : V} {r : List (Str × V)} (h : ¬ g = k) : putF k v ((g, x) :: r) = (g, x) :: putF k v r := if_neg h
section
variable {X : Cx} {k j : Nat} {C : Addr} {x m : Str} {sp : Sp} {dvs : List V} {p pos apos : Pos} {e o : Expr} {es : List Expr} {ta : TE} {t : TA}
theorem pe_mk0 (c : Mak X.prog X.w X.K X.mg X.base k x C sp dvs) (hr : Room j X.A) (hk : k + 1 ≤ j) (hg : Gl X x) (hdb : (x == ("__debug__" : Str)) = false := by decide) : PE X (.Call (.Name x p) [] [] pos) (tMake C sp dvs C8.E0 tNil) := by
  obtain ⟨_, _, _, _, M, F, hm, b, d⟩ := c.ex
  exact pe_make0 M F (hr.mono hk) hg hm b d pass0 hdb
/-- a property of the class at C -/
structure Prp (P : Program) (w : World) (K : Frg) (mg : Str → Option Value) (base : Heap) (k : Nat) (C : Addr) (f : Str) (sp : Sp) : Prop where
  ex : ∃ (q g : Addr) (fd : FuncData) (ps : List Str), Cls K C ∧ PropOf K C f q g ∧ FnOk P w K mg base CX0 k g fd ps sp ∧ Binds K fd ps []
theorem pe_pr {f : Str} (c : Prp X.prog X.w X.K X.mg X.base k C f sp) (hr : Room j X.A) (hk : k + 1 ≤ j) (he : PE X o ta) (hab : attributeBase o f X.env (eval o X.env) = eval o X.env := by rfl) : PE X (.Attribute o f pos) (tProp C sp [] C8.E0 ta) := by
  obtain ⟨_, _, _, _, cl, q, F, b⟩ := c.ex
  exact pe_prop he cl q F (hr.mono hk) b .nil pass0 hab
end
section
variable {P : Program} {w : World} {K : Frg} {mg : Str → Option Value} {base : Heap} {x qual : Str} {params : Arguments} {body : List Stmt} {scope : Scope} {f : Addr} {fd : FuncData} {N ps : List Str} {k : Nat} {sp : Sp} {C : Addr}
theorem metD (F : FunD K x qual params body scope [] [] f fd) (cl : Cls K C) (me : Meth K C x f) (S : FnScope N ps scope)
    (hb : ∀ (kV doc pm : Value) (an : Option Addr) (cdv ct : Value) (us : List Value), us.length = ps.length → bindArgs (PySem.W.fnOf x qual params body scope .none kV doc pm an cdv ct) ⟨us, []⟩ = pure (ps.zip us))
    (len : ∀ vs H Q E, sp vs H Q E → vs.length = ps.length)
    (hbody : ∀ (cdv : Value) (A : Around) (outer : List Env) (s : Shared) (H : Hp) (vs : List V) (Q : VK) (E : XK), Room k (A.deeper (envOfC qual scope s.heap.objs.size f cdv)) → sp vs H Q E →
      ∃ t, PSs (cxOf CX0 P w K mg base N qual scope f cdv A outer s H E).nox body t ∧ t { nx := fun _ H' => Q .non H', rt := Q } (start N vs) H) : Met P w K mg base (k + 1) C x sp [] :=
  ⟨f, fd, ps, [], cl, me, fnD F S len hbody, F.bindsN hb, .nil⟩
theorem makD {y : Str} (F : FunD K x qual params body scope [] [] f fd) (M : Mk K C f) (m : mg y = some (.ref C)) (S : FnScope N ps scope)
    (hb : ∀ (kV doc pm : Value) (an : Option Addr) (cdv ct : Value) (us : List Value), us.length = ps.length → bindArgs (PySem.W.fnOf x qual params body scope .none kV doc pm an cdv ct) ⟨us, []⟩ = pure (ps.zip us))
    (len : ∀ vs H Q E, sp vs H Q E → vs.length = ps.length)
    (hbody : ∀ (cdv : Value) (A : Around) (outer : List Env) (s : Shared) (H : Hp) (vs : List V) (Q : VK) (E : XK), Room k (A.deeper (envOfC qual scope s.heap.objs.size f cdv)) → sp vs H Q E →
      ∃ t, PSs (cxOf CX0 P w K mg base N qual scope f cdv A outer s H E).nox body t ∧ t { nx := fun _ H' => Q .non H', rt := Q } (start N vs) H) : Mak P w K mg base (k + 1) y C sp [] :=
  ⟨f, fd, ps, [], M, fnD F S len hbody, m, F.bindsN hb, .nil⟩
theorem prpD {y : Str} {q : Addr} (F : FunD K x qual params body scope [] [] f fd) (cl : Cls K C) (pr : PropOf K C y q f) (S : FnScope N ps scope)
    (hb : ∀ (kV doc pm : Value) (an : Option Addr) (cdv ct : Value) (us : List Value), us.length = ps.length → bindArgs (PySem.W.fnOf x qual params body scope .none kV doc pm an cdv ct) ⟨us, []⟩ = pure (ps.zip us))
    (len : ∀ vs H Q E, sp vs H Q E → vs.length = ps.length)
    (hbody : ∀ (cdv : Value) (A : Around) (outer : List Env) (s : Shared) (H : Hp) (vs : List V) (Q : VK) (E : XK), Room k (A.deeper (envOfC qual scope s.heap.objs.size f cdv)) → sp vs H Q E →
      ∃ t, PSs (cxOf CX0 P w K mg base N qual scope f cdv A outer s H E).nox body t ∧ t { nx := fun _ H' => Q .non H', rt := Q } (start N vs) H) : Prp P w K mg base (k + 1) C y sp :=
  ⟨q, f, fd, ps, cl, pr, fnD F S len hbody, F.bindsN hb⟩
end
section
variable {σ : St} {H : Hp} {n b c : St → Hp → Prop} {r : VK} {Q : VK} {K : Frg} {a C dx : Addr} {fs : List (Str × V)} {f : Str} {v : V}
theorem r_fld {te : TE} (h : te σ H fun x H1 => ∃ a C dx fs v, x = .ref a ∧ H1 a = some (.ins C dx fs) ∧ Cls K C ∧ NoAttr K C f ∧ fs.lookup f = some v ∧ Q v H1) : tFld K te f σ H Q := h
theorem r_fget {R : V → Prop} (h : H a = some (.ins C dx fs)) (cl : Cls K C) (na : NoAttr K C f) (l : fs.lookup f = some v) (q : R v) :
    ∃ a' C dx fs v, V.ref a = .ref a' ∧ H a' = some (.ins C dx fs) ∧ Cls K C ∧ NoAttr K C f ∧ fs.lookup f = some v ∧ R v := ⟨a, C, dx, fs, v, rfl, h, cl, na, l, q⟩
theorem r_sfld {ta tv : TE} (h : tv σ H fun y H1 => ta σ H1 fun x H2 => ∃ a C dx fs, x = .ref a ∧ H2 a = some (.ins C dx fs) ∧ Cls K C ∧ NoAttr K C f ∧ fs.length < 1000 ∧ n σ (upd H2 a (.ins C dx (putF f y fs)))) : sFld K ta tv f ⟨n, r, b, c⟩ σ H := h
theorem r_fset {R : Hp → Prop} {fs' : List (Str × V)} (h : H a = some (.ins C dx fs)) (cl : Cls K C) (na : NoAttr K C f) (hl : fs.length < 1000) (e : putF f v fs = fs') (q : R (upd H a (.ins C dx fs'))) :
    ∃ a' C dx fs, V.ref a = .ref a' ∧ H a' = some (.ins C dx fs) ∧ Cls K C ∧ NoAttr K C f ∧ fs.length < 1000 ∧ R (upd H a' (.ins C dx (putF f v fs))) := ⟨a, C, dx, fs, rfl, h, cl, na, hl, by rw [e]; exact q⟩
theorem r_meth {m : Str} {sp : Sp} {dvs : List V} {E : XK} {ta : TE} {t : TA} (h : ta σ H fun x H1 => ∃ a dx fs, x = .ref a ∧ H1 a = some (.ins C dx fs) ∧ fs.lookup m = none ∧ t σ H1 fun vs H2 => sp (x :: (vs ++ dvs)) H2 Q E) : tMeth C m sp dvs E ta t σ H Q := h
theorem r_mget {m : Str} {R : Prop} (h : H a = some (.ins C dx fs)) (l : fs.lookup m = none) (q : R) : ∃ a' dx fs, V.ref a = .ref a' ∧ H a' = some (.ins C dx fs) ∧ fs.lookup m = none ∧ R := ⟨a, dx, fs, rfl, h, l, q⟩
theorem r_prop {sp : Sp} {dvs : List V} {E : XK} {ta : TE} (h : ta σ H fun x H1 => ∃ a dx fs, x = .ref a ∧ H1 a = some (.ins C dx fs) ∧ sp (.ref a :: dvs) H1 Q E) : tProp C sp dvs E ta σ H Q := h
theorem r_pget {R : Addr → Prop} (h : H a = some (.ins C dx fs)) (q : R a) : ∃ a' dx fs, V.ref a = .ref a' ∧ H a' = some (.ins C dx fs) ∧ R a' := ⟨a, dx, fs, rfl, h, q⟩
theorem r_make {sp : Sp} {dvs : List V} {E : XK} {t : TA} (h : t σ H fun vs H1 => ∀ x dx, H1 x = none → H1 dx = none → dx ≠ x → sp (.ref x :: (vs ++ dvs)) (upd (upd H1 dx (.own x)) x (.ins C dx [])) (fun v H2 => v = .non ∧ Q (.ref x) H2) E) : tMake C sp dvs E t σ H Q := h
end
/-- a class whose __init__ has one default: made with it and without -/
theorem makD1 {P : Program} {w : World} {K : Frg} {mg : Str → Option Value} {base : Heap} {x qual : Str} {params : Arguments} {body : List Stmt} {scope : Scope} {f : Addr} {fd : FuncData} {N ps : List Str} {k : Nat} {sp : Sp} {C : Addr} {y : Str} {v : V} (F : FunD K x qual params body scope [v] [] f fd) (M : Mk K C f) (m : mg y = some (.ref C)) (S : FnScope N ps scope)
    (h1 : ∀ (T : Addr) (kV doc pm : Value) (an : Option Addr) (cdv ct : Value) (us its : List Value), us.length = ps.length - 1 → its.length = [v].length →
      ∃ k, bindArgs (PySem.W.fnOf x qual params body scope (.ref T) kV doc pm an cdv ct) ⟨us, []⟩ = seqItems? (.ref T) >>= k ∧ k (some its.toArray) = pure (ps.zip (us ++ its.drop 0)))
    (h2 : ∀ (T : Addr) (kV doc pm : Value) (an : Option Addr) (cdv ct : Value) (us its : List Value), us.length = ps.length → its.length = [v].length →
      ∃ k, bindArgs (PySem.W.fnOf x qual params body scope (.ref T) kV doc pm an cdv ct) ⟨us, []⟩ = seqItems? (.ref T) >>= k ∧ k (some its.toArray) = pure (ps.zip (us ++ its.drop 1)))
    (len : ∀ vs H Q E, sp vs H Q E → vs.length = ps.length)
    (hbody : ∀ (cdv : Value) (A : Around) (outer : List Env) (s : Shared) (H : Hp) (vs : List V) (Q : VK) (E : XK), Room k (A.deeper (envOfC qual scope s.heap.objs.size f cdv)) → sp vs H Q E →
      ∃ t, PSs (cxOf CX0 P w K mg base N qual scope f cdv A outer s H E).nox body t ∧ t { nx := fun _ H' => Q .non H', rt := Q } (start N vs) H) (hp : 1 ≤ ps.length := by decide) : Mak P w K mg base (k + 1) y C sp [v] ∧ Mak P w K mg base (k + 1) y C sp [] := by
  have ok : FnOk P w K mg base CX0 (k + 1) f fd ps sp := F.ok S len fun cdv A outer s H vs Q E hr h => by
    obtain ⟨t, a1, a2⟩ := hbody cdv A outer s H vs Q E hr h
    exact ⟨t, a1.nox, a2⟩
  obtain ⟨d1, r1, b1⟩ := F.binds1 (ps := ps) (ps.length - 1) 0 (by simp) (by show ps.length - 1 + (1 - 0) = _; omega) h1
  obtain ⟨d2, r2, b2⟩ := F.binds1 (ps := ps) ps.length 1 (by simp) (by show ps.length + (1 - 1) = _; omega) h2
  exact ⟨⟨f, fd, ps, d1, M, ok, m, b1, r1⟩, ⟨f, fd, ps, d2, M, ok, m, b2, r2⟩⟩
/-- .. of a def -/
theorem calD1 {P : Program} {w : World} {K : Frg} {mg : Str → Option Value} {base : Heap} {x qual : Str} {params : Arguments} {body : List Stmt} {scope : Scope} {f : Addr} {fd : FuncData} {N ps : List Str} {k : Nat} {sp : Sp} {v : V} (F : FunD K x qual params body scope [v] [] f fd) (m : mg x = some (.ref f)) (S : FnScope N ps scope)
    (h1 : ∀ (T : Addr) (kV doc pm : Value) (an : Option Addr) (cdv ct : Value) (us its : List Value), us.length = ps.length - 1 → its.length = [v].length →
      ∃ k, bindArgs (PySem.W.fnOf x qual params body scope (.ref T) kV doc pm an cdv ct) ⟨us, []⟩ = seqItems? (.ref T) >>= k ∧ k (some its.toArray) = pure (ps.zip (us ++ its.drop 0)))
    (h2 : ∀ (T : Addr) (kV doc pm : Value) (an : Option Addr) (cdv ct : Value) (us its : List Value), us.length = ps.length → its.length = [v].length →
      ∃ k, bindArgs (PySem.W.fnOf x qual params body scope (.ref T) kV doc pm an cdv ct) ⟨us, []⟩ = seqItems? (.ref T) >>= k ∧ k (some its.toArray) = pure (ps.zip (us ++ its.drop 1)))
    (len : ∀ vs H Q E, sp vs H Q E → vs.length = ps.length)
    (hbody : ∀ (cdv : Value) (A : Around) (outer : List Env) (s : Shared) (H : Hp) (vs : List V) (Q : VK) (E : XK), Room k (A.deeper (envOfC qual scope s.heap.objs.size f cdv)) → sp vs H Q E →
      ∃ t, PSs (cxOf CX0 P w K mg base N qual scope f cdv A outer s H E).nox body t ∧ t { nx := fun _ H' => Q .non H', rt := Q } (start N vs) H) (hp : 1 ≤ ps.length := by decide) : Cal P w K mg base (k + 1) x sp [v] ∧ Cal P w K mg base (k + 1) x sp [] := by
  have ok : FnOk P w K mg base CX0 (k + 1) f fd ps sp := F.ok S len fun cdv A outer s H vs Q E hr h => by
    obtain ⟨t, a1, a2⟩ := hbody cdv A outer s H vs Q E hr h
    exact ⟨t, a1.nox, a2⟩
  obtain ⟨d1, r1, b1⟩ := F.binds1 (ps := ps) (ps.length - 1) 0 (by simp) (by show ps.length - 1 + (1 - 0) = _; omega) h1
  obtain ⟨d2, r2, b2⟩ := F.binds1 (ps := ps) ps.length 1 (by simp) (by show ps.length + (1 - 1) = _; omega) h2
  exact ⟨⟨f, fd, ps, d1, ok, m, F.kp, b1, r1⟩, ⟨f, fd, ps, d2, ok, m, F.kp, b2, r2⟩⟩

/-! ### loops over rows -/
section
variable {X : Cx} {tg iter : Expr}
/-- one of two ways to come by an iterator -/
theorem pi_or {u v : TI} (h1 : PI X tg iter u) (h2 : PI X tg iter v) : PI X tg iter (fun σ H R => u σ H R ∨ v σ H R) := by
  refine ⟨fun pins s σ H R I h => ?_⟩
  rcases h with h | h
  · exact h1.run pins s σ H R I h
  · exact h2.run pins s σ H R I h
end
set_option maxHeartbeats 8000000 in
theorem meets_enum1 {v : Value} {o : Obj} {G : Heap → Prop} (B : Begins v o G) :
    Meets (Builtin.«enumerate.__new__» ⟨[.type "enumerate", v], []⟩) (fun _ R s => G s.heap ∧
      R (.ok (.ret (.ref (s.heap.push o).objs.size))) { s with heap := (s.heap.push o).push { cls := .type "enumerate", data := .fields #[.none, .bool false, .ref s.heap.objs.size, rawInt 0, .none, .none] } }) :=
  .of_wp fun prog w A R s h => by
    obtain ⟨hp, g, d, tk, os⟩ := s
    obtain ⟨h1, h⟩ := h
    have hsub := sub_enumerate
    have q1 : ∀ {A' : Around} {E : Value → Shared → Prop} {Q : Value → Shared → Prop}, Q (.ref hp.objs.size) ⟨hp.push o, g, d, tk, os⟩ → wpAny (model prog w) A' (pyIter v) Q E ⟨hp, g, d, tk, os⟩ :=
      fun q => B.iter prog w _ _ ⟨hp, g, d, tk, os⟩ _ h1 q
    wp_walk using q1
    refine wpAny_stack_any fun st => wpAny_pure ?_
    split
    · rename_i c _ _ _ _ _
      cases (c == Value.type "enumerate")
      · wp_walk using q1
        exact ⟨_, rfl, h⟩
      · wp_walk using q1
        exact ⟨_, rfl, h⟩
    · wp_walk using q1
      exact ⟨_, rfl, h⟩
theorem call_enum1 {prog : Program} {w : World} {A : Around} {E : Value → Shared → Prop} {s : Shared} {v : Value} {o : Obj} {G : Heap → Prop} {Q : Value → Shared → Prop} (B : Begins v o G) (h1 : G s.heap)
    (h : ∀ h', IsEnum h' (s.heap.objs.size + 1) s.heap.objs.size 0 .none → h'.get? s.heap.objs.size = some o → h'.objs.size = s.heap.objs.size + 2 →
      (∀ b o, s.heap.get? b = some o → h'.get? b = some o) → Q (.ref (s.heap.objs.size + 1)) { s with heap := h' }) : wpAny (model prog w) A (call (.type "enumerate") [v]) Q E s := by
  refine callType_new F.called_enumerate (by decide) (F.typeCall_enumerate_1 _) (F.newCall_enumerate_1 _) (fun obj => F.args_object_init_2 obj _) F.entry_enumerate_new (meets_enum1 B) ⟨h1, ?_⟩
  have hz : (s.heap.push o).objs.size = s.heap.objs.size + 1 := Heap.size_push ..
  show _ ∧ _
  rw [hz]
  have he := Heap.get?_push_size (s.heap.push o) (o := { cls := .type "enumerate", data := .fields #[.none, .bool false, .ref s.heap.objs.size, rawInt 0, .none, .none] }) rfl
  rw [hz] at he
  exact ⟨⟨_, he, rfl⟩, h _ he (Heap.get?_push_of_some _ (Heap.get?_push_size _ B.free)) (by rw [Heap.size_push, hz]) fun b o x => Heap.get?_push_of_some _ (Heap.get?_push_of_some _ x)⟩
/-- the tuple at a, each item in a new pair -/
def Itet (K : PySem.W.Frag) (a : Addr) (xs : List V) : It :=
  ⟨fun i H => SqT K H a xs ∧ i < xs.length, fun i H v H' => ∃ T x, v = .ref T ∧ H T = none ∧ H' = upd H T (.tup [.int (i : Nat), x]) ∧ xs[i]? = some x, fun i H => SqT K H a xs ∧ xs.length ≤ i⟩
theorem turn_enumT {P : Program} {w : World} {K : PySem.W.Frag} {elts : List Expr} {kk : Nat} {tpos : Pos} (a e it : Addr) (xs : List V) (hta : a ≠ it) :
    Turn P w K (.Tuple elts kk tpos) (Itet K a xs) [e, it] e (fun i h => (∃ old, IsEnum h e it ((i : Nat) : Int) old) ∧ h.IsTupleIter it a i ∧ e ≠ it ∧ i ≤ xs.length) where
  mem := by simp
  obj := fun i h st b hb => by
    obtain ⟨⟨old, he⟩, ⟨o, ho, hc, hd⟩, _⟩ := st
    have e' : b = e ∨ b = it := by simpa using hb
    rcases e' with z | z
    · rw [z]
      exact ⟨_, he, fun v q => nomatch q⟩
    · rw [z]
      exact ⟨o, ho, fun v q => by rw [hd] at q; cases q⟩
  keep := fun i h h' st k => let ⟨⟨old, he⟩, hi, hne, hn⟩ := st; ⟨⟨old, k e (by simp) _ he⟩, hi.at fun o q => k it (by simp) o q, hne, hn⟩
  item := by
    intro X hP hw hK hc i pins s σ H E I hf st hg
    subst hP hw hK
    obtain ⟨⟨old, he⟩, hit, hne, hn⟩ := st
    obtain ⟨hq, hlt⟩ := hg
    obtain ⟨its, rv, p, hz⟩ := I.tuple hq
    have p' : s.heap.IsTuple a its.toArray := p
    have hl := rv.length
    have hel : e < s.heap.objs.size := Heap.lt_size he
    have hil : it < s.heap.objs.size := by
      obtain ⟨_, q, _⟩ := hit
      exact Heap.lt_size q
    have hea : e ≠ a := fun q => by
      obtain ⟨o, ho, hc', _⟩ := p'
      rw [← q, he] at ho
      cases ho
      have z : Value.type "enumerate" = Value.type "tuple" := hc'
      injection z with z
      exact absurd z (by decide)
    have D := Draws.tuple (prog := X.prog) (w := X.w) (A := X.A.in1) (I.ok.hd hc) it a hta its.toArray
    refine wpAny_pyNext_enum_itemD D he ⟨hit, p'⟩ (by simpa [← hl] using hlt) hne (by simp [hne, hea]) fun u h' tk hu ho hs' hT hsz hk => ?_
    obtain ⟨x, hx, ru⟩ : ∃ x, xs[i]? = some x ∧ RelV x u := by
      obtain ⟨u', hu', r'⟩ := rv.get (List.getElem?_eq_getElem hlt)
      have e1 : its[i]? = some u := by simpa using hu
      rw [e1] at hu'
      cases hu'
      exact ⟨_, List.getElem?_eq_getElem hlt, r'⟩
    refine ⟨_, rfl, wpAny_letOwnedTupleGo_enum (s := { s with heap := h', toks := tk + 1 }) ho fun h'' he' sb => ?_⟩
    have hT2 : h''.get? s.heap.objs.size = some { cls := .type "tuple", data := .seq #[.int i tk, u] } := (sb.2 _ (Nat.ne_of_gt hel)).trans hT
    have new : ObjOk X.prog X.w (upd H s.heap.objs.size (.tup [.int (i : Nat), x])) h'' s.heap.objs.size (.tup [.int (i : Nat), x]) :=
      ⟨by show 2 ≤ sizeLine; decide, [.int i tk, u], .cons ⟨_, rfl⟩ (.cons ru .nil), ⟨_, hT2, rfl, _, rfl⟩⟩
    have I1 : Inv X pins σ (upd H s.heap.objs.size (.tup [.int (i : Nat), x])) { s with heap := h'', toks := tk + 1 } :=
      I.turnedNew (ch := [e, it]) (fun b ob hb q => (sb.2 b (fun z => hb (by simp [z]))).trans (hk b ob (fun z => hb (by simp [z])) (fun z => hb (by simp [z])) q)) hf (Nat.le_refl _) new
    refine ⟨.ref s.heap.objs.size, _, I1, rfl, ⟨_, x, rfl, I.hok.fresh (Nat.le_refl _), rfl, hx⟩, ⟨⟨u, ?_⟩, hs'.1.at fun o q => (sb.2 it (Ne.symm hne)).trans q, hne, hlt⟩, fun b hb => ?_⟩
    · have e1 : ((i + 1 : Nat) : Int) = (i : Int) + 1 := by omega
      rw [e1]
      exact he'
    · have hb' : b < s.heap.objs.size := by
        have e' : b = e ∨ b = it := by simpa using hb
        rcases e' with z | z
        · rw [z]
          exact hel
        · rw [z]
          exact hil
      rw [upd_ne (Nat.ne_of_lt hb')]
      exact (hf b hb).1
  done := by
    intro X hP hw hK hc i pins s σ H E I hf st hg
    subst hP hw hK
    obtain ⟨⟨old, he⟩, hit, hne, hn⟩ := st
    obtain ⟨hq, hx⟩ := hg
    obtain ⟨its, rv, p, hz⟩ := I.tuple hq
    have p' : s.heap.IsTuple a its.toArray := p
    obtain ⟨f0, f1, f2, f3, f4, f5⟩ := hf it (by simp)
    have hl := rv.length
    have hi : i = its.toArray.size := by
      simp
      omega
    subst hi
    have D := Draws.tuple (prog := X.prog) (w := X.w) (A := X.A.in1) (I.ok.hd hc) it a hta its.toArray
    exact wpAny_pyNext_enum_endD D he ⟨hit, p'⟩ fun h' eb => ⟨rfl, I.turned (t' := s.toks) (fun b o hb q => eb b o hb q) f0 f1 f3 f4 f5⟩
  self := fun A i s Q E st h => let ⟨⟨_, he⟩, _⟩ := st; wpAny_pyIter_enum he h
def iEnumT (K : PySem.W.Frag) (ta : TA) : TI := fun σ H R => ta σ H fun vs H1 => ∃ a xs, vs = [.ref a] ∧ SqT K H1 a xs ∧ R (Itet K a xs) H1
theorem pi_enumT {X : Cx} {e : Expr} {ta : TA} {p pos tpos : Pos} {elts : List Expr} {kk : Nat} (hg : Gl X "enumerate") (hm : X.mg "enumerate" = none) (ha : PA X [e] ta) (hs : starEach [e] X.env = [(false, eval e X.env)] := by rfl) :
    PI X (.Tuple elts kk tpos) (.Call (.Name "enumerate" p) [e] [] pos) (iEnumT X.K ta) := by
  refine ⟨fun pins s σ H R I h => ?_⟩
  refine PyProof.Rows.Call_ (ld_blt I hg hm PyProof.Rows.boot_enumerate (PyProof.Rows.callWith_type1 (thn (ha.run pos pins s σ H _ I h) fun us s1 ⟨vs, H1, I1, r1, q1⟩ => ?_) hs rfl))
  obtain ⟨a, xs, ex, hq, q⟩ := q1
  subst ex
  cases r1 with
  | cons r rr =>
    cases rr
    cases r
    obtain ⟨its, rv, p', hz⟩ := I1.tuple hq
    have p2 : s1.heap.IsTuple a its.toArray := p'
    refine call_enum1 (begins_tuple a its.toArray) p2 fun h' he hit hsz hk => wpAny_pyIter_enum he ?_
    have I2 : Inv X pins σ H1 { s1 with heap := h' } := I1.kept (t' := s1.toks) hk
    have hal : a < s1.heap.objs.size := by
      obtain ⟨_, q, _⟩ := p2
      exact Heap.lt_size q
    refine ⟨s1.heap.objs.size + 1, [s1.heap.objs.size + 1, s1.heap.objs.size], _, _, H1, rfl, I2, turn_enumT a (s1.heap.objs.size + 1) s1.heap.objs.size xs (Nat.ne_of_lt hal), ⟨⟨.none, he⟩, ⟨_, hit, rfl, rfl⟩, Nat.succ_ne_self _, Nat.zero_le _⟩, fun b hb => ?_, q⟩
    have e' : b = s1.heap.objs.size + 1 ∨ b = s1.heap.objs.size := by simpa using hb
    have hle : s1.heap.objs.size ≤ b := by
      rcases e' with z | z
      · rw [z]
        exact Nat.le_add_right _ _
      · rw [z]
        exact Nat.le_refl _
    exact I1.fpOk hle (I1.hok.fresh hle)
/-! ### the turns of such loops -/
section
variable {σ : St} {H : Hp} {n b c : St → Hp → Prop} {r : VK} {Q : VK} {K : PySem.W.Frag}
theorem r_each {J : It} {g : TG} {tb : TS} (N : Nat) (Pv : Nat → St → Hp → Prop) (h0 : Pv 0 σ H)
    (hs : ∀ (i : Nat) σ H, i < N → Pv i σ H → J.go i H ∧ ∀ x H', J.yld i H x H' → g x σ H' fun σ2 H2 => tb ⟨Pv (i + 1), r, n, Pv (i + 1)⟩ σ2 H2) (hd : ∀ σ H, Pv N σ H → J.stop N H ∧ n σ H) :
    ∃ W : Nat → Nat → St → Hp → Prop, (∃ m, W 0 m σ H) ∧ ∀ i m σ H, W i m σ H →
    (J.stop i H ∧ n σ H) ∨ (J.go i H ∧ ∃ N : St → Hp → Prop, (∀ σ' H', N σ' H' → ∃ m', m' < m ∧ W (i + 1) m' σ' H') ∧ ∀ x H', J.yld i H x H' → g x σ H' fun σ2 H2 => tb ⟨N, r, n, N⟩ σ2 H2) := by
  refine ⟨fun i m σ H => i ≤ N ∧ m = N - i ∧ Pv i σ H, ⟨N, Nat.zero_le _, rfl, h0⟩, fun i m σ H ⟨hi, hm, hp⟩ => ?_⟩
  by_cases c : i < N
  · obtain ⟨h1, h2⟩ := hs i σ H c hp
    exact .inr ⟨h1, Pv (i + 1), fun σ' H' q => ⟨N - (i + 1), by omega, c, rfl, q⟩, h2⟩
  · have e : i = N := by omega
    subst e
    exact .inl (hd σ H hp)
/-- a for over a list -/
theorem r_eachL {g : TG} {tb : TS} {a : Addr} {xs : List V} (Pv : Nat → St → Hp → Prop) (h0 : Pv 0 σ H) (hl : ∀ i σ H, Pv i σ H → SqL K H a xs)
    (hs : ∀ (i : Nat) x σ H, xs[i]? = some x → Pv i σ H → g x σ H fun σ2 H2 => tb ⟨Pv (i + 1), r, n, Pv (i + 1)⟩ σ2 H2) (hd : ∀ σ H, Pv xs.length σ H → n σ H) :
    ∃ W : Nat → Nat → St → Hp → Prop, (∃ m, W 0 m σ H) ∧ ∀ i m σ H, W i m σ H →
    ((Itl K a).stop i H ∧ n σ H) ∨ ((Itl K a).go i H ∧ ∃ N : St → Hp → Prop, (∀ σ' H', N σ' H' → ∃ m', m' < m ∧ W (i + 1) m' σ' H') ∧ ∀ x H', (Itl K a).yld i H x H' → g x σ H' fun σ2 H2 => tb ⟨N, r, n, N⟩ σ2 H2) := by
  refine r_each xs.length Pv h0 (fun i σ H hi p => ⟨⟨xs, xs[i], hl i σ H p, List.getElem?_eq_getElem hi⟩, ?_⟩) fun σ H p => ⟨⟨xs, hl _ σ H p, Nat.le_refl _⟩, hd σ H p⟩
  rintro x _ ⟨rfl, e⟩
  exact hs i x σ _ (e xs (hl i σ _ p)) p
/-- .. a tuple -/
theorem r_eachT {g : TG} {tb : TS} {a : Addr} {xs : List V} (Pv : Nat → St → Hp → Prop) (h0 : Pv 0 σ H) (hl : ∀ i σ H, Pv i σ H → SqT K H a xs)
    (hs : ∀ (i : Nat) x σ H, xs[i]? = some x → Pv i σ H → g x σ H fun σ2 H2 => tb ⟨Pv (i + 1), r, n, Pv (i + 1)⟩ σ2 H2) (hd : ∀ σ H, Pv xs.length σ H → n σ H) :
    ∃ W : Nat → Nat → St → Hp → Prop, (∃ m, W 0 m σ H) ∧ ∀ i m σ H, W i m σ H →
    ((Itt K a).stop i H ∧ n σ H) ∨ ((Itt K a).go i H ∧ ∃ N : St → Hp → Prop, (∀ σ' H', N σ' H' → ∃ m', m' < m ∧ W (i + 1) m' σ' H') ∧ ∀ x H', (Itt K a).yld i H x H' → g x σ H' fun σ2 H2 => tb ⟨N, r, n, N⟩ σ2 H2) := by
  refine r_each xs.length Pv h0 (fun i σ H hi p => ⟨⟨xs, xs[i], hl i σ H p, List.getElem?_eq_getElem hi⟩, ?_⟩) fun σ H p => ⟨⟨xs, hl _ σ H p, Nat.le_refl _⟩, hd σ H p⟩
  rintro x _ ⟨rfl, e⟩
  exact hs i x σ _ (e xs (hl i σ _ p)) p
/-- .. with the numbers of the turns -/
theorem r_eachE {g : TG} {tb : TS} {a : Addr} {xs : List V} (Pv : Nat → St → Hp → Prop) (h0 : Pv 0 σ H) (hl : ∀ i σ H, Pv i σ H → SqL K H a xs)
    (hs : ∀ (i : Nat) x σ H T, xs[i]? = some x → Pv i σ H → H T = none → g (.ref T) σ (upd H T (.tup [.int (i : Nat), x])) fun σ2 H2 => tb ⟨Pv (i + 1), r, n, Pv (i + 1)⟩ σ2 H2) (hd : ∀ σ H, Pv xs.length σ H → n σ H) :
    ∃ W : Nat → Nat → St → Hp → Prop, (∃ m, W 0 m σ H) ∧ ∀ i m σ H, W i m σ H →
    ((Ite K a).stop i H ∧ n σ H) ∨ ((Ite K a).go i H ∧ ∃ N : St → Hp → Prop, (∀ σ' H', N σ' H' → ∃ m', m' < m ∧ W (i + 1) m' σ' H') ∧ ∀ x H', (Ite K a).yld i H x H' → g x σ H' fun σ2 H2 => tb ⟨N, r, n, N⟩ σ2 H2) := by
  refine r_each xs.length Pv h0 (fun i σ H hi p => ⟨⟨xs, xs[i], hl i σ H p, List.getElem?_eq_getElem hi⟩, ?_⟩) fun σ H p => ⟨⟨xs, hl _ σ H p, Nat.le_refl _⟩, hd σ H p⟩
  rintro _ _ ⟨T, x, rfl, hT, rfl, e⟩
  exact hs i x σ _ T (e xs (hl i σ _ p)) p hT
theorem r_eachET {g : TG} {tb : TS} {a : Addr} {xs : List V} (Pv : Nat → St → Hp → Prop) (h0 : Pv 0 σ H) (hl : ∀ i σ H, Pv i σ H → SqT K H a xs)
    (hs : ∀ (i : Nat) x σ H T, xs[i]? = some x → Pv i σ H → H T = none → g (.ref T) σ (upd H T (.tup [.int (i : Nat), x])) fun σ2 H2 => tb ⟨Pv (i + 1), r, n, Pv (i + 1)⟩ σ2 H2) (hd : ∀ σ H, Pv xs.length σ H → n σ H) :
    ∃ W : Nat → Nat → St → Hp → Prop, (∃ m, W 0 m σ H) ∧ ∀ i m σ H, W i m σ H →
    ((Itet K a xs).stop i H ∧ n σ H) ∨ ((Itet K a xs).go i H ∧ ∃ N : St → Hp → Prop, (∀ σ' H', N σ' H' → ∃ m', m' < m ∧ W (i + 1) m' σ' H') ∧ ∀ x H', (Itet K a xs).yld i H x H' → g x σ H' fun σ2 H2 => tb ⟨N, r, n, N⟩ σ2 H2) := by
  refine r_each xs.length Pv h0 (fun i σ H hi p => ⟨⟨hl i σ H p, hi⟩, ?_⟩) fun σ H p => ⟨⟨hl _ σ H p, Nat.le_refl _⟩, hd σ H p⟩
  rintro _ _ ⟨T, x, rfl, hT, rfl, e⟩
  exact hs i x σ _ T e p hT
/-- .. of range(i, j, c) -/
theorem r_eachR {g : TG} {tb : TS} {i0 j0 c0 : Int} (k : Nat) (hc : RgC i0 j0 c0 k) (Pv : Nat → St → Hp → Prop) (h0 : Pv 0 σ H)
    (hs : ∀ (i : Nat) σ H, i < k → Pv i σ H → g (.int (i0 + i * c0)) σ H fun σ2 H2 => tb ⟨Pv (i + 1), r, n, Pv (i + 1)⟩ σ2 H2) (hd : ∀ σ H, Pv k σ H → n σ H) :
    RgC i0 j0 c0 k ∧ ∃ W : Nat → Nat → St → Hp → Prop, (∃ m, W 0 m σ H) ∧ ∀ i m σ H, W i m σ H →
    ((Itc i0 c0 k).stop i H ∧ n σ H) ∨ ((Itc i0 c0 k).go i H ∧ ∃ N : St → Hp → Prop, (∀ σ' H', N σ' H' → ∃ m', m' < m ∧ W (i + 1) m' σ' H') ∧ ∀ x H', (Itc i0 c0 k).yld i H x H' → g x σ H' fun σ2 H2 => tb ⟨N, r, n, N⟩ σ2 H2) := by
  refine ⟨hc, r_each k Pv h0 (fun i σ H hi p => ⟨hi, ?_⟩) fun σ H p => ⟨Nat.le_refl _, hd σ H p⟩⟩
  rintro _ _ ⟨rfl, rfl⟩
  exact hs i σ _ hi p
theorem r_rng2 {ta : TA} {R : It → Hp → Prop} (h : ta σ H fun vs H1 => ∃ i j : Int, vs = [.int i, .int j] ∧ (-(2 ^ 62) ≤ i ∧ i < 2 ^ 62 ∧ -(2 ^ 62) ≤ j ∧ j < 2 ^ 62) ∧ R (Itr i (j - i).toNat) H1) : iRng2 ta σ H R := h
theorem r_rng3 {ta : TA} {R : It → Hp → Prop} (h : ta σ H fun vs H1 => ∃ (i j c : Int) (n : Nat), vs = [.int i, .int j, .int c] ∧ RgC i j c n ∧ R (Itc i c n) H1) : iRng3 ta σ H R := h
theorem r_itL {tl : TE} {R : It → Hp → Prop} (h : tl σ H fun x H1 => ∃ a, x = .ref a ∧ (∃ xs, SqL K H1 a xs) ∧ R (Itl K a) H1) : iList K tl σ H R := h
theorem r_itT {tl : TE} {R : It → Hp → Prop} (h : tl σ H fun x H1 => ∃ a, x = .ref a ∧ (∃ xs, SqT K H1 a xs) ∧ R (Itt K a) H1) : iTup K tl σ H R := h
theorem r_itE {ta : TA} {R : It → Hp → Prop} (h : ta σ H fun vs H1 => ∃ a xs, vs = [.ref a] ∧ SqL K H1 a xs ∧ R (Ite K a) H1) : iEnum K ta σ H R := h
theorem r_itET {ta : TA} {R : It → Hp → Prop} (h : ta σ H fun vs H1 => ∃ a xs, vs = [.ref a] ∧ SqT K H1 a xs ∧ R (Itet K a xs) H1) : iEnumT K ta σ H R := h
theorem r_eqB {i j : Bool} (h : Q (.bl (decide (i = j))) H) : rEq (.bl i) (.bl j) H Q := by
  have e : decide (V.bl i = V.bl j) = decide (i = j) := by simp
  exact ⟨rfl, by rw [e]; exact h⟩
theorem r_neB {i j : Bool} (h : Q (.bl (!decide (i = j))) H) : rNe (.bl i) (.bl j) H Q := by
  have e : decide (V.bl i = V.bl j) = decide (i = j) := by simp
  exact ⟨rfl, by rw [e]; exact h⟩
end
/-- an if whose test is known -/
theorem r_ifB {σ : St} {H : Hp} {D : Ends} {tt : TT} {t u : TS} (b : Bool) (ht : ∀ R : Bool → Hp → Prop, R b H → tt σ H R) (h : if b = true then t D σ H else u D σ H) : tIfS tt t u D σ H := ht _ h

/-! ### an attribute as a target among others -/
section
variable {X : Cx} {o : Expr} {ta : TE} {f : Str} {pos : Pos}
def gFld (K : PySem.W.Frag) (ta : TE) (f : Str) : TG := fun v σ H R => ta σ H fun x H1 => ∃ a C dx fs, x = .ref a ∧ H1 a = some (.ins C dx fs) ∧ Cls K C ∧ NoAttr K C f ∧ fs.length < 1000 ∧ R σ (upd H1 a (.ins C dx (putF f v fs)))
theorem pg_fld (ha : PE X o ta) : PG X (.Attribute o f pos) (gFld X.K ta f) := by
  refine ⟨fun pins s σ H v u Q I r h => ?_⟩
  rw [assign_Attribute]
  refine wpAny_bind (wpAny_holding (thn (ha.run pins s σ H _ I h) fun ov s2 ⟨x, H2, I2, rx, a, C, dx, fs, ex, ea, c, n, l, q2⟩ => ?_))
  subst ex
  obtain rfl : ov = Value.ref a := rx
  refine wpAny_bind (wpAny_standAt (wpAny_bind (wpAny_holding ?_)))
  exact setattr_ok I2 ea c n l r fun s3 I3 => wpAny_release ⟨σ, _, I3, q2⟩
end

local macro_rules | `(tactic| walk_at "rv") => `(tactic| ((with_reducible apply r_var); (· rfl)))
local macro_rules | `(tactic| walk_at "rd1") => `(tactic| first
  | (with_reducible refine r_seq ?_)
  | (with_reducible refine r_asg ?_)
  | (with_reducible refine r_name ?_)
  | ((with_reducible apply r_var); (· rfl))
  | (with_reducible refine r_c ?_)
  | (with_reducible refine r_op ?_)
  | (with_reducible refine r_I0 ?_)
  | (with_reducible refine r_eqI ?_)
  | (with_reducible refine r_neI ?_)
  | (with_reducible refine r_eqS ?_)
  | (with_reducible refine r_neS ?_)
  | (with_reducible refine r_cons ?_)
  | (with_reducible refine r_nil ?_)
  | (with_reducible refine r_if ?_)
  | (with_reducible refine r_test ?_)
  | (with_reducible refine r_B ?_)
  | (with_reducible refine r_bl ?_)
  | (with_reducible refine r_ret ?_)
  | (with_reducible refine r_drop ?_)
  | (with_reducible refine r_un ?_)
  | (with_reducible refine r_U ?_)
  | (with_reducible refine r_CB ?_)
  | (with_reducible refine r_call ?_)
  | (with_reducible refine r_retN ?_)
  | (with_reducible refine r_next ?_)
  | (with_reducible refine r_brk ?_)
  | (with_reducible refine r_ifE ?_)
  | (with_reducible refine r_and ?_)
  | (with_reducible refine r_or ?_)
  | (with_reducible refine r_not ?_)
  | (with_reducible refine r_andV ?_)
  | (with_reducible refine r_orV ?_)
  | (with_reducible refine r_notV ?_)
  | (with_reducible refine r_chain ?_)
  | (with_reducible refine r_iteF ?_)
  | (with_reducible refine r_iteT ?_)
  | (with_reducible refine r_iteNT ?_)
  | (with_reducible refine r_iteNF ?_)
  | ((with_reducible apply r_I); (· first | decide | exact ⟨by decide, by decide⟩ | exact .inr ⟨by decide, by decide⟩ | exact .inl ⟨by decide, by decide⟩ | exact ⟨by decide, by decide, by decide⟩))
  | (with_reducible refine r_bm ?_)
  | (with_reducible refine r_bm0 ?_)
  | (with_reducible refine r_sub ?_)
  | (with_reducible refine r_yes ?_)
  | (with_reducible refine r_fld ?_)
  | (with_reducible refine r_sfld ?_)
  | (with_reducible refine r_meth ?_)
  | (with_reducible refine r_prop ?_)
  | (with_reducible refine r_make ?_)
  | (with_reducible refine r_gcons ?_)
  | (with_reducible refine r_gnil ?_)
  | (with_reducible refine r_rfl ?_)
  | (with_reducible refine r_for ?_)
  | (with_reducible refine r_rng1 ?_)
  | (with_reducible refine r_int1 ?_)
  | (with_reducible refine r_abs ?_)
  | (with_reducible refine r_tup ?_)
  | (with_reducible refine r_lst ?_))
local macro_rules | `(tactic| walk_at "rd") => `(tactic| repeat (walk_at "rd1"))
local macro_rules | `(tactic| walk_at "ri1") => `(tactic| first
  | (with_reducible refine r_seq ?_)
  | (with_reducible refine r_asg ?_)
  | (with_reducible refine r_name ?_)
  | ((with_reducible apply r_var); (· rfl))
  | (with_reducible refine r_c ?_)
  | (with_reducible refine r_op ?_)
  | (with_reducible refine r_I0 ?_)
  | (with_reducible refine r_eqI ?_)
  | (with_reducible refine r_neI ?_)
  | (with_reducible refine r_eqS ?_)
  | (with_reducible refine r_neS ?_)
  | (with_reducible refine r_cons ?_)
  | (with_reducible refine r_nil ?_)
  | (with_reducible refine r_test ?_)
  | (with_reducible refine r_B ?_)
  | (with_reducible refine r_bl ?_)
  | (with_reducible refine r_ret ?_)
  | (with_reducible refine r_drop ?_)
  | (with_reducible refine r_un ?_)
  | (with_reducible refine r_U ?_)
  | (with_reducible refine r_CB ?_)
  | (with_reducible refine r_call ?_)
  | (with_reducible refine r_retN ?_)
  | (with_reducible refine r_next ?_)
  | (with_reducible refine r_brk ?_)
  | (with_reducible refine r_ifE ?_)
  | (with_reducible refine r_and ?_)
  | (with_reducible refine r_or ?_)
  | (with_reducible refine r_not ?_)
  | (with_reducible refine r_andV ?_)
  | (with_reducible refine r_orV ?_)
  | (with_reducible refine r_notV ?_)
  | (with_reducible refine r_chain ?_)
  | (with_reducible refine r_iteF ?_)
  | (with_reducible refine r_iteT ?_)
  | (with_reducible refine r_iteNT ?_)
  | (with_reducible refine r_iteNF ?_)
  | ((with_reducible apply r_I); (· first | decide | exact ⟨by decide, by decide⟩ | exact .inr ⟨by decide, by decide⟩ | exact .inl ⟨by decide, by decide⟩ | exact ⟨by decide, by decide, by decide⟩))
  | (with_reducible refine r_bm ?_)
  | (with_reducible refine r_bm0 ?_)
  | (with_reducible refine r_sub ?_)
  | (with_reducible refine r_yes ?_)
  | (with_reducible refine r_fld ?_)
  | (with_reducible refine r_sfld ?_)
  | (with_reducible refine r_meth ?_)
  | (with_reducible refine r_prop ?_)
  | (with_reducible refine r_make ?_)
  | (with_reducible refine r_gcons ?_)
  | (with_reducible refine r_gnil ?_)
  | (with_reducible refine r_rfl ?_)
  | (with_reducible refine r_for ?_)
  | (with_reducible refine r_rng1 ?_)
  | (with_reducible refine r_int1 ?_)
  | (with_reducible refine r_abs ?_)
  | (with_reducible refine r_tup ?_)
  | (with_reducible refine r_lst ?_))
local macro_rules | `(tactic| walk_at "ri") => `(tactic| repeat (walk_at "ri1"))

structure Nm (K : Frg) (mg : Str → Option Value) : Prop where
  divmod : mg "divmod" = none
  sorted : mg "sorted" = none
  len : mg "len" = none
  abs : mg "abs" = none
  range : mg "range" = none
  int : mg "int" = none
  min : mg "min" = none
  tuple : mg "tuple" = none
  list : mg "list" = none
  isinstance : mg "isinstance" = none
  dig : DigK K

/-! ### numbers by powers of ten -/
theorem pow_bits {b : Int} (hb : b.natAbs < 16) (c : Nat) : (b ^ c).natAbs < 2 ^ (4 * c + 1) := by
  rw [Int.natAbs_pow]
  have h1 : b.natAbs ^ c ≤ 16 ^ c := Nat.pow_le_pow_left (by omega) c
  have h2 : (16 : Nat) ^ c = 2 ^ (4 * c) := by
    rw [Nat.pow_mul]
  have h3 : (2 : Nat) ^ (4 * c) < 2 ^ (4 * c + 1) := Nat.pow_lt_pow_right (by decide) (by omega)
  omega
theorem bits10 (n : Nat) : (10 : Int) ^ n < 2 ^ (4 * n + 1) := by
  have h := pow_bits (b := 10) (by decide) n
  have e : ((10 : Int) ^ n).natAbs = 10 ^ n := by rw [Int.natAbs_pow]; rfl
  rw [e] at h
  have h2 : ((10 ^ n : Nat) : Int) < ((2 ^ (4 * n + 1) : Nat) : Int) := Int.ofNat_lt.mpr h
  rw [Int.natCast_pow, Int.natCast_pow] at h2
  exact h2
theorem abs10 {x : Int} {n : Nat} (h : x.natAbs < 10 ^ n) : x.natAbs < 2 ^ (4 * n + 1) := by
  have h1 := pow_bits (b := 10) (by decide) n
  have e : ((10 : Int) ^ n).natAbs = 10 ^ n := by rw [Int.natAbs_pow]; rfl
  rw [e] at h1
  omega
theorem abs_mul10 {x y : Int} {a b : Nat} (h1 : x.natAbs < 10 ^ a) (h2 : y.natAbs < 10 ^ b) : (x * y).natAbs < 10 ^ (a + b) := by
  rw [Int.natAbs_mul, Nat.pow_add]
  exact Nat.mul_lt_mul'' h1 h2
theorem natAbs10 (n : Nat) : ((10 : Int) ^ n).natAbs = 10 ^ n := by rw [Int.natAbs_pow]; rfl
theorem pow10_le {a b : Nat} (h : a ≤ b) : (10 : Nat) ^ a ≤ 10 ^ b := Nat.pow_le_pow_right (by decide) h
def sp_law (K : PySem.W.Frag) : Sp := sp1 fun a H Q _ => ∃ (sl : Addr) (ns : List Int), a = .ref sl ∧ SqL K H sl (ns.map V.int) ∧ ∀ H', Q (.bl true) H'

/-! ### the law's state: a list of drawn numbers, its place, and the script; every draw is any number below its bound -/
structure SC where
  a : Addr
  nl : Addr
  sl : Addr
  nums : List Int
  ns : List Int
structure LS (K : PySem.W.Frag) (S : SC) (H : Hp) : Prop where
  st : ∃ k l f : Int, H S.a = some (.lst [.ref S.nl, .int k, .int l, .ref S.sl, .int f])
  nm : H S.nl = some (.lst (S.nums.map V.int))
  len : S.nums.length = 120
  ne : S.nl ≠ S.a
  scr : SqL K H S.sl (S.ns.map V.int)
/-- all but the state's own list stays -/
def Keep (S : SC) (H H' : Hp) : Prop := ∀ b o, b ≠ S.a → H b = some o → H' b = some o
theorem Keep.refl (S : SC) (H : Hp) : Keep S H H := fun _ _ _ h => h
theorem Keep.trans {S : SC} {H H1 H2 : Hp} (a : Keep S H H1) (b : Keep S H1 H2) : Keep S H H2 := fun c o n h => b c o n (a c o n h)
theorem Keep.of {S : SC} {H H' : Hp} (h : Same H H') : Keep S H H' := fun b o _ q => h b o q
section
variable {K : PySem.W.Frag} {S : SC} {H H' : Hp}
theorem LS.same (L : LS K S H) (h : Same H H') : LS K S H' := by
  obtain ⟨⟨k, l, f, e⟩, h2, h3, h4, h5⟩ := L
  exact ⟨⟨k, l, f, h _ _ e⟩, h _ _ h2, h3, h4, h.seq h5⟩
theorem LS.new (L : LS K S H) {p : Addr} (h : H p = none) (o : HO) : LS K S (upd H p o) := L.same (same_upd h o)
theorem LS.put (L : LS K S H) (k l f : Int) : LS K S (upd H S.a (.lst [.ref S.nl, .int k, .int l, .ref S.sl, .int f])) := by
  obtain ⟨⟨k', l', f', e⟩, h2, h3, h4, h5⟩ := L
  refine ⟨⟨k, l, f, upd_same⟩, (upd_ne h4).trans h2, h3, h4, ?_⟩
  rcases h5 with (h | ⟨o, h⟩) | h
  · refine .inl (.inl ((upd_ne fun q => ?_).trans h))
    rw [q, e] at h
    injection h with h
    injection h with h
    cases hn : S.ns with
    | nil =>
      rw [hn] at h
      cases h
    | cons x r =>
      rw [hn] at h
      cases h
  · refine .inl (.inr ⟨o, (upd_ne fun q => ?_).trans h⟩)
    rw [q, e] at h
    cases h
  · exact .inr h
theorem Keep.put (o : HO) : Keep S H (upd H S.a o) := fun b u n h => (upd_ne n).trans h
/-- an address that is free later was free before -/
theorem Keep.free (h : Keep S H H') (L : LS K S H') {p : Addr} (hp : H' p = none) : H p = none := by
  have n : p ≠ S.a := fun e => by
    obtain ⟨k, l, f, q⟩ := L.st
    rw [e, q] at hp
    cases hp
  cases e : H p with
  | none => rfl
  | some o =>
    rw [h p o n e] at hp
    cases hp
theorem LS.ne_free (L : LS K S H) {p : Addr} (hp : H p = none) : p ≠ S.a := fun e => by
  obtain ⟨k, l, f, q⟩ := L.st
  rw [e, q] at hp
  cases hp
end
/-- the state with what is left of its budget -/
structure LB (K : PySem.W.Frag) (S : SC) (l : Int) (H : Hp) : Prop where
  ls : LS K S H
  at_ : ∃ k f : Int, H S.a = some (.lst [.ref S.nl, .int k, .int l, .ref S.sl, .int f])
section
variable {K : PySem.W.Frag} {S : SC} {l : Int} {H H' : Hp}
theorem LB.same (L : LB K S l H) (h : Same H H') : LB K S l H' := by
  obtain ⟨h1, k, f, e⟩ := L
  exact ⟨h1.same h, k, f, h _ _ e⟩
theorem LB.new (L : LB K S l H) {p : Addr} (h : H p = none) (o : HO) : LB K S l (upd H p o) := L.same (same_upd h o)
theorem LB.put (L : LB K S l H) (k l' f : Int) : LB K S l' (upd H S.a (.lst [.ref S.nl, .int k, .int l', .ref S.sl, .int f])) := ⟨L.ls.put k l' f, k, f, upd_same⟩
theorem LB.ne_free (L : LB K S l H) {p : Addr} (hp : H p = none) : p ≠ S.a := L.ls.ne_free hp
theorem LB.noTup (L : LB K S l H) {a : Addr} {xs : List V} (h : H a = some (.tup xs)) : a ≠ S.a := fun e => by
  obtain ⟨_, k, f, e'⟩ := L
  rw [e, e'] at h
  cases h
end
abbrev s__law_cell : Stmt := (top 5)
theorem sc__law_cell : FnScope ["script", "k"] ["script", "k"] (defScope s__law_cell) := ⟨rfl, rfl, rfl, by decide +kernel, rfl, by decide +kernel, by decide +kernel⟩
abbrev s__law_numbers : Stmt := (top 6)
theorem sc__law_numbers : FnScope ["cell", "many", "rest", "size", "numbers", "k", "mixed"] ["cell", "many"] (defScope s__law_numbers) := ⟨rfl, rfl, rfl, by decide +kernel, rfl, by decide +kernel, by decide +kernel⟩
abbrev s__law_state : Stmt := (top 7)
theorem sc__law_state : FnScope ["script", "left", "numbers", "k", "parted"] ["script", "left"] (defScope s__law_state) := ⟨rfl, rfl, rfl, by decide +kernel, rfl, by decide +kernel, by decide +kernel⟩
abbrev s__law_next : Stmt := (top 8)
theorem sc__law_next : FnScope ["state", "many", "at"] ["state", "many"] (defScope s__law_next) := ⟨rfl, rfl, rfl, by decide +kernel, rfl, by decide +kernel, by decide +kernel⟩
def sp__law_cell (K : PySem.W.Frag) : Sp := sp2 fun a b H Q _ => ∃ (sl : Addr) (ns : List Int) (k : Int), a = .ref sl ∧ b = .int k ∧ SqL K H sl (ns.map V.int) ∧ 0 ≤ k ∧ ∀ z : Int, Q (.int z) H
def sp__law_numbers : Sp := sp2 fun a b H Q _ => ∃ (z : Int) (n : Nat), a = .int z ∧ b = .int (n : Int) ∧ n ≤ 1000 ∧ ∀ (p : Addr) (xs : List Int), H p = none → xs.length = n → Q (.ref p) (upd H p (.lst (xs.map V.int)))
def sp__law_state (K : PySem.W.Frag) : Sp := sp2 fun a b H Q _ => ∃ (sl : Addr) (ns : List Int) (l : Int), a = .ref sl ∧ b = .int l ∧ SqL K H sl (ns.map V.int) ∧
  ∀ (S : SC) (H' : Hp), S.sl = sl → S.ns = ns → LB K S l H' → Same H H' → H S.a = none → Q (.ref S.a) H'
def sp__law_next (K : PySem.W.Frag) : Sp := sp2 fun a b H Q _ => ∃ (S : SC) (l : Int) (m : Int), a = .ref S.a ∧ b = .int m ∧ 0 < m ∧ LB K S l H ∧ ∀ (r : Int) (H' : Hp), 0 ≤ r → r < m → LB K S l H' → Keep S H H' → Q (.int r) H'
section
variable {P : Program} {w : World} {K : PySem.W.Frag} {mg : Str → Option Value} {base : Heap} {f : Addr} {fd : FuncData}
theorem ok__law_cell (F : FunD K "_law_cell" "_law_cell" (defArgs s__law_cell) (defBody s__law_cell) (defScope s__law_cell) [] [] (glAd "_law_cell" K) fd) (m : mg "_law_cell" = some (.ref (glAd "_law_cell" K))) (nb : Nm K mg) : Cal P w K mg base 1 "_law_cell" (sp__law_cell K) [] := by
  refine calD F m sc__law_cell (fun _ _ _ _ _ _ us hl => match us, hl with | [_, _], _ => rfl) len2 (fun cdv A outer s H vs Q E hr h => ⟨_, (pss_cons (ps_if (pt_cmpR op_lt (pv 1) (pe_callB call_len_seq (by rfl) nb.len PySem.boot_len (pa_cons (pv 0) pa_nil)) (nomark _))
    (pss_one (ps_ret (pe_ix ix_list (pv 0) (pv 1) (fun _ _ => rfl))))
    pss_nil)
    (pss_one (ps_ret pe_int))), ?_⟩)
  obtain ⟨_, _, rfl, sl, ns, k, rfl, rfl, hs, h0, h⟩ := h
  walk_at "rd"
  refine ⟨_, _, rfl, .inl hs, ?_⟩
  walk_at "rd"
  refine r_ite (fun c => ?_) (fun c => ?_)
  · rw [List.length_map] at c
    obtain ⟨v, _, e⟩ := atI_ints h0 c
    walk_at "rd"
    exact r_ixL hs e (h v)
  · walk_at "rd"
    exact h 0
theorem ok__law_numbers (F : FunD K "_law_numbers" "_law_numbers" (defArgs s__law_numbers) (defBody s__law_numbers) (defScope s__law_numbers) [] [] (glAd "_law_numbers" K) fd) (m : mg "_law_numbers" = some (.ref (glAd "_law_numbers" K))) (nb : Nm K mg) : Cal P w K mg base 1 "_law_numbers" sp__law_numbers [] := by
  refine calD F m sc__law_numbers (fun _ _ _ _ _ _ us hl => match us, hl with | [_, _], _ => rfl) len2 (fun cdv A outer s H vs Q E hr h => ⟨_, (pss_cons (ps_set (i := 2) sc__law_numbers.nd rfl (Or.inl rfl) (pe_callB call_abs (by rfl) nb.abs (by decide +kernel) (pa_cons (pv 0) pa_nil)))
    (pss_cons (ps_set (i := 3) sc__law_numbers.nd rfl (Or.inl rfl) (pv 2))
    (pss_cons (ps_set (i := 4) sc__law_numbers.nd rfl (Or.inl rfl) (pe_lst pa_nil))
    (pss_cons (ps_for PassesOwn.never rfl (pi_range1 rfl nb.range (pa_cons (pv 1) pa_nil)) (pg_name (i := 5) sc__law_numbers.nd rfl (Or.inl rfl))
    (pss_one (ps_if (PW.pt (pw_and (pt_cmpR op_ge (pv 3) (pe_op op_pow pe_int pe_int) (nomark _)) (pw_and1 (pt_cmpR op_gt (pv 2) pe_int (nomark _)))))
    (pss_cons (ps_expr (pe_bm PySem.F.plainAttrs_list PySem.F.slot_list_append PySem.F.type_list_append mt_append (pv 4) (pa_cons (pe_op op_mod (pe_callTy call_int1 (by rfl) nb.int (by decide +kernel) (pa_cons (pv 2) pa_nil)) pe_int) pa_nil)))
    (pss_one (ps_set (i := 2) sc__law_numbers.nd rfl (Or.inl rfl) (pe_op op_fdiv (pv 2) pe_int))))
    (pss_cons (ps_set (i := 6) sc__law_numbers.nd rfl (Or.inl rfl) (pe_op op_mod (pe_callTy call_int1 (by rfl) nb.int (by decide +kernel) (pa_cons (pe_op op_add (pe_op op_add (pe_op op_mul (pv 3) pe_int) (pe_op op_mul (pv 5) pe_int)) pe_int) pa_nil)) pe_int))
    (pss_cons (ps_set (i := 6) sc__law_numbers.nd rfl (Or.inl rfl) (pe_op op_mod (pe_callTy call_int1 (by rfl) nb.int (by decide +kernel) (pa_cons (pe_op op_add (pe_op op_add (pe_op op_mul (pv 6) (pv 6)) (pe_op op_mul pe_int (pv 5))) pe_int) pa_nil)) pe_int))
    (pss_one (ps_expr (pe_bm PySem.F.plainAttrs_list PySem.F.slot_list_append PySem.F.type_list_append mt_append (pv 4) (pa_cons (pe_op op_mod (pe_callTy call_int1 (by rfl) nb.int (by decide +kernel) (pa_cons (pe_op op_fdiv (pv 6) pe_int) pa_nil)) pe_int) pa_nil)))))))))
    (pss_one (ps_ret (pv 4))))))), ?_⟩)
  obtain ⟨_, _, rfl, z, n, rfl, rfl, hn, h⟩ := h
  walk_at "rd"
  refine ⟨Nat.zero_le _, fun p hp => ?_⟩
  walk_at "rd"
  refine r_turns (by omega) (by omega) (fun i σ H' => ∃ (rest size : Int) (xs : List Int) (k mx : Option V), σ = [some (.int z), some (.int (n : Int)), some (.int rest), some (.int size), some (.ref p), k, mx] ∧ xs.length = i ∧ H' = upd H p (.lst (xs.map V.int))) ⟨_, _, [], none, none, rfl, rfl, rfl⟩ ?_ ?_
  · rintro i σ _ hi ⟨rest, size, xs, k, mx, rfl, hl, rfl⟩
    have hsz : (xs.map V.int).length < sizeLine := small1000 (by rw [List.length_map]; omega)
    have app : ∀ y : Int, upd (upd H p (.lst (xs.map V.int))) p (.lst (xs.map V.int ++ [.int y])) = upd H p (.lst ((xs ++ [y]).map V.int)) := fun y => by
      rw [upd_upd, List.map_append]
      rfl
    have two : ∀ r : Int, ∀ (σ' : St) (k mx : Option V) (rest size : Int), σ' = [some (.int z), some (.int (n : Int)), some (.int rest), some (.int size), some (.ref p), k, mx] → ∃ (rest size : Int) (xs' : List Int) (k mx : Option V), σ' = [some (.int z), some (.int (n : Int)), some (.int rest), some (.int size), some (.ref p), k, mx] ∧ xs'.length = i + 1 ∧ upd (upd H p (.lst (xs.map V.int))) p (.lst (xs.map V.int ++ [.int r])) = upd H p (.lst (xs'.map V.int)) := fun r σ' k mx rest size e =>
      ⟨rest, size, xs ++ [r], k, mx, e, by rw [List.length_append, hl]; rfl, app r⟩
    walk_at "rd"
    refine r_ite (fun c1 => ?_) (fun c1 => ?_)
    · walk_at "rd"
      refine r_ite (fun c2 => ?_) (fun c2 => ?_)
      · walk_at "rd"
        refine ⟨tyL upd_same, ?_⟩
        walk_at "rd"
        refine r_app upd_same hsz ?_
        walk_at "rd"
        exact two _ _ _ _ _ _ rfl
      · walk_at "rd"
        refine r_I (.inl ⟨by omega, by omega⟩) ?_
        walk_at "rd"
        refine ⟨tyL upd_same, ?_⟩
        walk_at "rd"
        refine r_app upd_same hsz ?_
        walk_at "rd"
        exact two _ _ _ _ _ _ rfl
    · walk_at "rd"
      refine r_I (.inl ⟨by omega, by omega⟩) ?_
      walk_at "rd"
      refine ⟨tyL upd_same, ?_⟩
      walk_at "rd"
      refine r_app upd_same hsz ?_
      walk_at "rd"
      exact two _ _ _ _ _ _ rfl
  · rintro σ _ ⟨rest, size, xs, k, mx, rfl, hl, rfl⟩
    walk_at "rd"
    exact h p xs hp (by omega)
theorem ok__law_next (F : FunD K "_law_next" "_law_next" (defArgs s__law_next) (defBody s__law_next) (defScope s__law_next) [] [] (glAd "_law_next" K) fd) (m : mg "_law_next" = some (.ref (glAd "_law_next" K))) (nb : Nm K mg) : Cal P w K mg base 1 "_law_next" (sp__law_next K) [] := by
  refine calD F m sc__law_next (fun _ _ _ _ _ _ us hl => match us, hl with | [_, _], _ => rfl) len2 (fun cdv A outer s H vs Q E hr h => ⟨_, (pss_cons (ps_set (i := 2) sc__law_next.nd rfl (Or.inl rfl) (pe_ix ix_list (pv 0) pe_int (fun _ _ => rfl)))
    (pss_cons (ps_asg (pe_op op_add (pv 2) pe_int) (pg_sub (pv 0) pe_int set_list))
    (pss_one (ps_ret (pe_op op_mod (pe_callTy call_int1 (by rfl) nb.int (by decide +kernel) (pa_cons (pe_op op_add (pe_ix ix_list (pe_ix ix_list (pv 0) pe_int (fun _ _ => rfl)) (pe_op op_mod (pv 2) pe_int) (fun _ _ => rfl)) (pe_op op_mul pe_int (pe_op op_fdiv (pv 2) pe_int))) pa_nil)) (pv 1)))))), ?_⟩)
  obtain ⟨_, _, rfl, S, l, mm, rfl, rfl, h0, L, h⟩ := h
  obtain ⟨L0, k, f5, e⟩ := L
  have L : LB K S l H := ⟨L0, k, f5, e⟩
  walk_at "rd"
  refine r_ixL (SqL.of e) rfl ?_
  walk_at "rd"
  refine r_setL e rfl ?_
  walk_at "rd"
  have L2 := L.put (k + 1) l f5
  obtain ⟨v, _, ev⟩ := atI_ints (ns := S.nums) (k := k % 120) (by omega) (by rw [L0.len]; omega)
  refine r_ixL (SqL.of upd_same) rfl ?_
  walk_at "rd"
  refine r_ixL (SqL.of L2.ls.nm) ev ?_
  walk_at "rd"
  refine r_I h0 ?_
  exact h _ _ (Int.emod_nonneg _ (by omega)) (Int.emod_lt_of_pos _ h0) L2 (Keep.put _)
theorem ok__law_state (F : FunD K "_law_state" "_law_state" (defArgs s__law_state) (defBody s__law_state) (defScope s__law_state) [] [] (glAd "_law_state" K) fd) (m : mg "_law_state" = some (.ref (glAd "_law_state" K))) (nb : Nm K mg) (c__law_cell : Cal P w K mg base 1 "_law_cell" (sp__law_cell K) []) (c__law_numbers : Cal P w K mg base 1 "_law_numbers" sp__law_numbers []) : Cal P w K mg base 2 "_law_state" (sp__law_state K) [] := by
  refine calD F m sc__law_state (fun _ _ _ _ _ _ us hl => match us, hl with | [_, _], _ => rfl) len2 (fun cdv A outer s H vs Q E hr h => ⟨_, (pss_cons (ps_set (i := 2) sc__law_state.nd rfl (Or.inl rfl) (pe_lst pa_nil))
    (pss_cons (ps_setLc (i := 4) (own := [("k", 3)]) (g := gName 3) (tt := tYes) rfl sc__law_state.nd rfl rfl (sw_true rfl rfl rfl (by decide +kernel)) (pi_range1 rfl nb.range (pa_cons pe_int pa_nil)) (blkOk_by (N := ["script", "left", "numbers", "k", "parted"]) (sc := defScope s__law_state) (by decide +kernel)) (fun _ _ _ _ _ => pg_name (i := 3) sc__law_state.nd rfl (Or.inl rfl)) (fun _ _ _ _ _ => pts_nil) (fun _ _ _ _ _ => (pe_c c__law_numbers hr (by decide) rfl (pa_cons (pe_c c__law_cell hr (by decide) rfl (pa_cons (pv 0) (pa_cons (pv 3) pa_nil))) (pa_cons pe_int pa_nil)))))
    (pss_cons (ps_for PassesOwn.never rfl (pi_range1 rfl nb.range (pa_cons pe_int pa_nil)) (pg_name (i := 3) sc__law_state.nd rfl (Or.inl rfl))
    (pss_cons (ps_expr (pe_bm PySem.F.plainAttrs_list PySem.F.slot_list_append PySem.F.type_list_append mt_append (pv 2) (pa_cons (pe_ix ix_list (pe_ix ix_list (pv 4) pe_int (fun _ _ => rfl)) (pv 3) (fun _ _ => rfl)) pa_nil)))
    (pss_cons (ps_expr (pe_bm PySem.F.plainAttrs_list PySem.F.slot_list_append PySem.F.type_list_append mt_append (pv 2) (pa_cons (pe_ix ix_list (pe_ix ix_list (pv 4) pe_int (fun _ _ => rfl)) (pv 3) (fun _ _ => rfl)) pa_nil)))
    (pss_one (ps_expr (pe_bm PySem.F.plainAttrs_list PySem.F.slot_list_append PySem.F.type_list_append mt_append (pv 2) (pa_cons (pe_ix ix_list (pe_ix ix_list (pv 4) pe_int (fun _ _ => rfl)) (pv 3) (fun _ _ => rfl)) pa_nil)))))))
    (pss_one (ps_ret (pe_lst (pa_cons (pv 2) (pa_cons pe_int (pa_cons (pv 1) (pa_cons (pv 0) (pa_cons pe_int pa_nil))))))))))), ?_⟩)
  obtain ⟨_, _, rfl, sl, ns, l, rfl, rfl, hs, h⟩ := h
  walk_at "rd"
  refine ⟨Nat.zero_le _, fun p hp => ?_⟩
  walk_at "rd"
  refine r_lcR 3 (by decide) (fun D hD => ?_) (fun R hR => hR)
  have sp0 := same_upd hp (.lst [])
  have pD : p ≠ D := fun e => by
    rw [← e, upd_same] at hD
    cases hD
  refine lc_range (fun i H' => ∃ ps : List Addr, H' D = some (.lst (ps.map V.ref)) ∧ ps.length = i ∧ (∀ q ∈ ps, q ≠ D ∧ ∃ xs : List Int, H' q = some (.lst (xs.map V.int)) ∧ xs.length = 40) ∧ Same (upd H p (.lst [])) H') ⟨[], upd_same, rfl, fun q hq => (by cases hq), same_upd hD _⟩ ?_ ?_
  · rintro i H' hi ⟨ps, e1, e2, e3, e4⟩
    walk_at "rd"
    refine ⟨rfl, ?_⟩
    walk_at "rd"
    have hs' : SqL K H' sl (ns.map V.int) := e4.seq (sp0.seq hs)
    refine ⟨_, _, rfl, sl, ns, _, rfl, rfl, hs', by omega, fun z => ?_⟩
    walk_at "rd"
    refine ⟨_, _, rfl, z, 40, rfl, rfl, by decide, fun q xs hq hx => ?_⟩
    have Dq : D ≠ q := ne_of_none e1 hq
    refine ⟨_, (upd_ne Dq).trans e1, small1000 (by rw [List.length_map]; omega), ps ++ [q], ?_, by rw [List.length_append, e2]; rfl, ?_, ?_⟩
    · rw [upd_same, List.map_append]
      rfl
    · intro q' hq'
      rcases List.mem_append.mp hq' with h1 | h1
      · obtain ⟨n1, xs', x1, x2⟩ := e3 q' h1
        exact ⟨n1, xs', by rw [upd_ne n1, upd_ne (ne_of_none x1 hq)]; exact x1, x2⟩
      · have e5 : q' = q := by simpa using h1
        subst e5
        exact ⟨Ne.symm Dq, xs, by rw [upd_ne (Ne.symm Dq), upd_same], hx⟩
    · intro b o hb
      have hb2 := e4 b o hb
      rw [upd_ne (ne_of_none hb hD), upd_ne (ne_of_none hb2 hq)]
      exact hb2
  · rintro H' ⟨ps, e1, e2, e3, e4⟩
    walk_at "rd"
    obtain ⟨p0, p1, p2, rfl⟩ : ∃ p0 p1 p2, ps = [p0, p1, p2] := match ps, e2 with | [a, b, c], _ => ⟨a, b, c, rfl⟩
    obtain ⟨_, x0, y0, z0⟩ := e3 p0 (by simp)
    obtain ⟨_, x1, y1, z1⟩ := e3 p1 (by simp)
    obtain ⟨_, x2, y2, z2⟩ := e3 p2 (by simp)
    have hp' : H' p = some (.lst []) := e4 _ _ upd_same
    have ne0 : ∀ {q : Addr} {xs : List Int}, H' q = some (.lst (xs.map V.int)) → xs.length = 40 → q ≠ p := fun {q xs} h1 h2 h3 => by
      rw [h3, hp'] at h1
      injection h1 with h1
      injection h1 with h1
      have h4 := congrArg List.length h1
      rw [List.length_map, h2] at h4
      cases h4
    have n0 := ne0 y0 z0
    have n1 := ne0 y1 z1
    have n2 := ne0 y2 z2
    have nD : D ≠ p := Ne.symm pD
    have fit : ∀ (xs : List Int) (i : Nat), xs.length = 40 → (i : Int) < 40 → ∃ v, atI (xs.map V.int) (i : Int) = some (.int v) := fun xs i h1 h2 => by
      obtain ⟨v, _, e⟩ := atI_ints (ns := xs) (k := (i : Int)) (by omega) (by omega)
      exact ⟨v, e⟩
    refine r_turns (by decide) (by decide) (fun i σ H2 => ∃ (zs : List Int) (kk : Option V), σ = [some (.ref sl), some (.int l), some (.ref p), kk, some (.ref D)] ∧ zs.length = 3 * i ∧ H2 = upd H' p (.lst (zs.map V.int))) ⟨[], none, rfl, rfl, ?_⟩ ?_ ?_
    · funext b
      by_cases c : b = p
      · subst c
        rw [upd_same, hp']
        rfl
      · rw [upd_ne c]
    · rintro i σ _ hi ⟨zs, kk, rfl, hz, rfl⟩
      obtain ⟨v0, a0⟩ := fit x0 i z0 hi
      obtain ⟨v1, a1⟩ := fit x1 i z1 hi
      obtain ⟨v2, a2⟩ := fit x2 i z2 hi
      walk_at "rd"
      refine ⟨tyL upd_same, ?_⟩
      walk_at "rd"
      refine r_ixL (SqL.of ((upd_ne nD).trans e1)) rfl ?_
      walk_at "rd"
      refine r_ixL (SqL.of ((upd_ne n0).trans y0)) a0 ?_
      walk_at "rd"
      refine r_app upd_same (small1000 (by rw [List.length_map]; omega)) ?_
      rw [upd_upd]
      walk_at "rd"
      refine ⟨tyL upd_same, ?_⟩
      walk_at "rd"
      refine r_ixL (SqL.of ((upd_ne nD).trans e1)) rfl ?_
      walk_at "rd"
      refine r_ixL (SqL.of ((upd_ne n1).trans y1)) a1 ?_
      walk_at "rd"
      refine r_app upd_same (small1000 (by rw [List.length_append, List.length_map]; show zs.length + 1 ≤ 1000; omega)) ?_
      rw [upd_upd]
      walk_at "rd"
      refine ⟨tyL upd_same, ?_⟩
      walk_at "rd"
      refine r_ixL (SqL.of ((upd_ne nD).trans e1)) rfl ?_
      walk_at "rd"
      refine r_ixL (SqL.of ((upd_ne n2).trans y2)) a2 ?_
      walk_at "rd"
      refine r_app upd_same (small1000 (by rw [List.length_append, List.length_append, List.length_map]; show zs.length + 1 + 1 ≤ 1000; omega)) ?_
      rw [upd_upd]
      exact ⟨zs ++ [v0] ++ [v1] ++ [v2], _, rfl, by simp [hz]; omega, by simp⟩
    · rintro σ _ ⟨zs, kk, rfl, hz, rfl⟩
      walk_at "rd"
      refine ⟨(by show 5 ≤ sizeLine; decide), fun a ha => ?_⟩
      have sa := same_upd ha (.lst [.ref p, .int 0, .int l, .ref sl, .int 3])
      have pa : p ≠ a := ne_of_none upd_same ha
      have all : Same H (upd H' p (.lst (zs.map V.int))) := fun b o hb => by
        rw [upd_ne (ne_of_none hb hp)]
        exact e4 _ _ (sp0 _ _ hb)
      have hsl : SqL K H sl (ns.map V.int) := hs
      refine h ⟨a, p, sl, zs, ns⟩ _ rfl rfl ⟨⟨⟨0, l, 3, upd_same⟩, (upd_ne pa).trans upd_same, by rw [hz]; rfl, pa, sa.seq (all.seq hs)⟩, 0, 3, upd_same⟩ (all.trans sa) (all.free ha)
end

/-! ### draws that keep the budget -/
section
variable {K : PySem.W.Frag} {S : SC} {l : Int} {σ : St} {H : Hp} {Q : VK} {E : XK}
theorem b_next {m : Int} (L : LB K S l H) (hm : 0 < m) (h : ∀ (r : Int) (H' : Hp), 0 ≤ r → r < m → LB K S l H' → Keep S H H' → Q (.int r) H') : sp__law_next K ([.ref S.a, .int m] ++ []) H Q E := ⟨_, _, rfl, S, l, m, rfl, rfl, hm, L, h⟩
/-- [x, y, ..][_law_next(state, n)] -/
theorem b_pick {xs : List V} {n : Int} {i : Nat} (L : LB K S l H) (e : σ[i]? = some (some (.ref S.a))) (hl : xs.length ≤ sizeLine) (hn : 0 < n) (hx : (xs.length : Int) = n)
    (h : ∀ (v : V) (H' : Hp), v ∈ xs → LB K S l H' → Keep S H H' → Q v H') :
    xs.length ≤ sizeLine ∧ ∀ p, H p = none → tCall (sp__law_next K) [] E (tCons (tVar i) (tCons (tC (.int n)) tNil)) σ (upd H p (.lst xs)) fun y H2 => rIxL K (.ref p) y H2 Q := by
  refine ⟨hl, fun p hp => ⟨_, e, ?_⟩⟩
  show sp__law_next K ([.ref S.a, .int n] ++ []) (upd H p (.lst xs)) (fun y H2 => rIxL K (.ref p) y H2 Q) E
  refine b_next (L.new hp _) hn fun r H' h0 h1 L' k => ?_
  have hr : r.toNat < xs.length := by omega
  have er : r = ((r.toNat : Nat) : Int) := by omega
  refine ⟨p, xs, r, xs[r.toNat], rfl, rfl, SqL.of (k _ _ (L.ne_free hp) upd_same), ?_, ?_⟩
  · have q := atI_nat (xs := xs) (j := r.toNat) (v := xs[r.toNat]) (List.getElem?_eq_getElem hr)
    rw [← er] at q
    exact q
  · exact h _ _ (List.getElem_mem hr) L' ((Keep.of (same_upd hp _)).trans k)
/-- the same, all of them numbers from lo to hi -/
theorem b_pickI {xs : List V} {n : Int} {i : Nat} (lo hi : Int) (L : LB K S l H) (e : σ[i]? = some (some (.ref S.a))) (hl : xs.length ≤ sizeLine) (hn : 0 < n) (hx : (xs.length : Int) = n) (hz : ∀ v ∈ xs, ∃ z, v = V.int z ∧ lo ≤ z ∧ z ≤ hi)
    (h : ∀ (z : Int) (H' : Hp), lo ≤ z → z ≤ hi → V.int z ∈ xs → LB K S l H' → Keep S H H' → Q (.int z) H') :
    xs.length ≤ sizeLine ∧ ∀ p, H p = none → tCall (sp__law_next K) [] E (tCons (tVar i) (tCons (tC (.int n)) tNil)) σ (upd H p (.lst xs)) fun y H2 => rIxL K (.ref p) y H2 Q :=
  b_pick L e hl hn hx fun v H' hv L' k => by
    obtain ⟨z, rfl, h1, h2⟩ := hz v hv
    exact h z H' h1 h2 hv L' k
theorem bl_nil {p : V → Prop} : ∀ v ∈ ([] : List V), p v := fun v hv => by cases hv
theorem bl_cons {p : V → Prop} {x : V} {xs : List V} (h : p x) (t : ∀ v ∈ xs, p v) : ∀ v ∈ x :: xs, p v := fun v hv => by
  rcases List.mem_cons.mp hv with e | e
  · rw [e]
    exact h
  · exact t v e
theorem b_new {o : HO} {p : Addr} (L : LB K S l H) (hp : H p = none) : ∃ H', upd H p o = H' ∧ LB K S l H' ∧ Same H H' ∧ H' p = some o ∧ p ≠ S.a := ⟨_, rfl, L.new hp o, same_upd hp o, upd_same, L.ne_free hp⟩
end

/-! ### slices, comprehensions, objects: rules of general use -/
section
variable {σ : St} {H : Hp} {n b c : St → Hp → Prop} {r : VK} {Q : VK} {K : Frg} {a C dx : Addr} {fs : List (Str × V)} {f : Str} {v : V}
theorem r_fsetK {R : Hp → Prop} {fs' : List (Str × V)} (h : H a = some (.ins C dx fs)) (cl : Cls K C) (na : NoAttr K C f) (hl : fs.length < 1000) (e : putF f v fs = fs') (q : ∀ H', H' a = some (.ins C dx fs') → (∀ b, b ≠ a → H' b = H b) → R H') :
    ∃ a' C dx fs, V.ref a = .ref a' ∧ H a' = some (.ins C dx fs) ∧ Cls K C ∧ NoAttr K C f ∧ fs.length < 1000 ∧ R (upd H a' (.ins C dx (putF f v fs))) := r_fset h cl na hl e (q _ upd_same fun _ hb => upd_ne hb)
theorem r_appK {p : Addr} {xs : List V} {y : V} (h : H p = some (.lst xs)) (hl : xs.length < sizeLine) (q : ∀ H', H' p = some (.lst (xs ++ [y])) → (∀ b, b ≠ p → H' b = H b) → Q .non H') : rAppend (.ref p) [y] H Q := r_app h hl (q _ upd_same fun _ hb => upd_ne hb)
theorem r_gfldV {R : St → Hp → Prop} {fs' : List (Str × V)} {k : Nat} (ek : σ[k]? = some (some (.ref a))) (h : H a = some (.ins C dx fs)) (cl : Cls K C) (na : NoAttr K C f) (hl : fs.length < 1000) (e : putF f v fs = fs') (q : ∀ H', H' a = some (.ins C dx fs') → (∀ b, b ≠ a → H' b = H b) → R σ H') : gFld K (tVar k) f v σ H R :=
  ⟨_, ek, a, C, dx, fs, rfl, h, cl, na, hl, by rw [e]; exact q _ upd_same fun _ hb => upd_ne hb⟩
end
def But (a l : Addr) (H H' : Hp) : Prop := ∀ b u, b ≠ a → b ≠ l → H b = some u → H' b = some u
theorem map_snoc (ps : List Int) (x : Int) : ps.map V.int ++ [V.int x] = (ps ++ [x]).map V.int := by simp
theorem dp_tup {K : Frg} {H : Hp} {v : V} {ds : List PyData} (h : Dp K H v (.tuple ds)) : ∃ a xs, v = .ref a ∧ SqT K H a xs ∧ DpAll K H xs ds := by
  cases h
  exact ⟨_, _, rfl, by assumption, by assumption⟩
theorem dp_get {K : Frg} {H : Hp} : ∀ {xs : List V} {ds : List PyData} {i : Nat} {x : V}, DpAll K H xs ds → xs[i]? = some x → ∃ d, ds[i]? = some d ∧ Dp K H x d
  | [], _, _, _, _, e => by cases e
  | x :: xs, _, 0, _, .cons h t, e => by
    cases e
    exact ⟨_, rfl, h⟩
  | x :: xs, _, i + 1, _, .cons h t, e => by
    obtain ⟨d, e1, h1⟩ := dp_get (i := i) t e
    exact ⟨d, e1, h1⟩
theorem dp_len {K : Frg} {H : Hp} : ∀ {xs : List V} {ds : List PyData}, DpAll K H xs ds → xs.length = ds.length
  | [], _, .nil => rfl
  | _ :: _, _, .cons _ t => congrArg (· + 1) (dp_len t)
theorem dp_ints {K : Frg} {H : Hp} : ∀ {xs : List V} (ns : List Int), DpAll K H xs (ns.map PyData.int) → xs = ns.map V.int
  | _, [], h => by
    cases h
    rfl
  | _, n :: ns, h => by
    cases h with
    | cons h t =>
      cases h
      rw [dp_ints ns t]
      rfl
theorem dpa_ints {K : Frg} {H : Hp} : ∀ (ns : List Int), DpAll K H (ns.map V.int) (ns.map PyData.int)
  | [] => .nil
  | n :: ns => .cons (.int n) (dpa_ints ns)
theorem shaped_ints (ns : List Int) : SeqAt.shaped (.list (ns.map PyData.int)) = true := PySem.W.ke_shaped_ints ns
theorem ints_get {cs : List Int} {i : Nat} {x : V} (e : (cs.map V.int)[i]? = some x) : ∃ c, cs[i]? = some c ∧ x = .int c ∧ cs.take (i + 1) = cs.take i ++ [c] := by
  rw [List.getElem?_map] at e
  obtain ⟨c, h, rfl⟩ := Option.map_eq_some_iff.mp e
  refine ⟨c, h, rfl, ?_⟩
  rw [List.take_succ, h]
  rfl
theorem ints_step {cs : List Int} {i : Nat} {c : Int} (h : cs[i]? = some c) : cs.take (i + 1) = cs.take i ++ [c] := by
  rw [List.take_succ, h]
  rfl
/-- the state stays when a place changes that was free at an earlier heap -/
theorem LS.away {K : PySem.W.Frag} {S : SC} {H1 H' : Hp} (L1 : LS K S H1) {D : Addr} (hD : H1 D = none) (L : LS K S H') (o : HO) : LS K S (upd H' D o) := by
  obtain ⟨⟨k, l, f, e⟩, h2, h3, h4, h5⟩ := L1
  obtain ⟨⟨k', l', f', e'⟩, h2', _, _, h5'⟩ := L
  have n : ∀ {b : Addr} {u : HO}, H1 b = some u → b ≠ D := fun h z => by
    rw [z, hD] at h
    cases h
  refine ⟨⟨k', l', f', (upd_ne (n e)).trans e'⟩, (upd_ne (n h2)).trans h2', h3, h4, ?_⟩
  rcases h5 with (h | ⟨u, h⟩) | h
  · exact seq_upd h5' (n h)
  · exact seq_upd h5' (n h)
  · exact .inr h
theorem r_sl {σ : St} {H : Hp} {Q : VK} {r : V → Option Int → Option Int → Hp → VK → Prop} {te : TE} {tl th : TO} (h : te σ H fun x H1 => tl σ H1 fun l H2 => th σ H2 fun u H3 => r x l u H3 Q) : tSl r te tl th σ H Q := h
theorem r_part {σ : St} {H : Hp} {t : TE} {Q : Option Int → Hp → Prop} (h : t σ H fun x H1 => ∃ i, x = .int i ∧ Q (some i) H1) : tPart t σ H Q := h
theorem r_some {i : Int} {Q : Option Int → Prop} (h : Q (some i)) : ∃ j, V.int i = .int j ∧ Q (some j) := ⟨i, rfl, h⟩
theorem r_nopart {σ : St} {H : Hp} {Q : Option Int → Hp → Prop} (h : Q none H) : tNoPart σ H Q := h
theorem r_slL {K : PySem.W.Frag} {p : Addr} {xs : List V} {lo hi : Option Int} {H : Hp} {Q : VK} (hs : SqL K H p xs) (h : ∀ q, H q = none → Q (.ref q) (upd H q (.lst (cutV xs lo hi)))) : rSlL K (.ref p) lo hi H Q := ⟨p, xs, rfl, hs, h⟩
theorem cut_tl {v : V} {xs : List V} : cutV (v :: xs) (some 1) none = xs := by
  have e : HT.sIx (v :: xs).length 0 (some 1) = 1 := (HT.sIx_nat (v :: xs).length 0 1).trans (by show min 1 (xs.length + 1) = 1; omega)
  unfold cutV
  rw [e, HT.sIx_none]
  show xs.take (xs.length + 1 - 1) = xs
  simp
theorem r_min2 {σ : St} {H : Hp} {Q : VK} {K : PySem.W.Frag} {p : Addr} {x y : Int} (hs : H p = some (.lst [.int x, .int y])) (h : Q (.int (min x y)) H) : rMin K [.ref p] H Q := by
  refine ⟨p, [x, y], rfl, SqL.of hs, by show 0 < 2; decide, fun m hm hle => ?_⟩
  have h1 := hle x (by simp)
  have h2 := hle y (by simp)
  have e : m = min x y := by
    rcases List.mem_cons.mp hm with e | e
    · omega
    · rcases List.mem_cons.mp e with e | e
      · omega
      · cases e
  rw [e]
  exact h
theorem at0 {v : V} {xs : List V} : atI (v :: xs) 0 = some v := atI_nat (xs := v :: xs) (j := 0) rfl
theorem cut_ints (zs : List Int) (lo hi : Option Int) : ∃ ws : List Int, cutV (zs.map V.int) lo hi = ws.map V.int ∧ (∀ x ∈ ws, x ∈ zs) ∧ ws.length ≤ zs.length := by
  refine ⟨(zs.drop (HT.sIx (zs.map V.int).length 0 lo)).take (HT.sIx (zs.map V.int).length (zs.map V.int).length hi - HT.sIx (zs.map V.int).length 0 lo), ?_, ?_, ?_⟩
  · unfold cutV
    rw [List.map_take, List.map_drop]
  · intro x hx
    exact List.mem_of_mem_drop (List.mem_of_mem_take hx)
  · rw [List.length_take, List.length_drop]
    omega
/-- a slice of a row of numbers in a slot -/
theorem d_cut {σ : St} {H : Hp} {Q : VK} {K : PySem.W.Frag} {k : Nat} {o : Addr} {zs : List Int} {tl th : TO} (lo hi : Option Int) (e : σ[k]? = some (some (.ref o))) (g : H o = some (.lst (zs.map V.int))) (hl : ∀ R : Option Int → Hp → Prop, R lo H → tl σ H R) (hh : ∀ R : Option Int → Hp → Prop, R hi H → th σ H R)
    (h : ∀ (q : Addr) (ws : List Int), H q = none → (∀ x ∈ ws, x ∈ zs) → ws.length ≤ zs.length → Q (.ref q) (upd H q (.lst (ws.map V.int)))) : tSl (rSlL K) (tVar k) tl th σ H Q := by
  refine r_sl ⟨_, e, hl _ (hh _ ?_)⟩
  obtain ⟨ws, e1, e2, e3⟩ := cut_ints zs lo hi
  refine r_slL (SqL.of g) fun q nq => ?_
  rw [e1]
  exact h q ws nq e2 e3
theorem cat_ints (a b : List Int) : a.map V.int ++ b.map V.int = (a ++ b).map V.int := by simp
theorem LS.but {K : PySem.W.Frag} {S : SC} {H1 H H' : Hp} (L1 : LS K S H1) {m l : Addr} (hm : H1 m = none) (hl : H1 l = none) (L : LS K S H) (b : But m l H H') : LS K S H' := by
  obtain ⟨⟨k, l', f, e⟩, h2, h3, h4, h5⟩ := L1
  obtain ⟨⟨k', l'', f', e'⟩, h2', _, _, h5'⟩ := L
  have n1 : ∀ {b : Addr} {u : HO}, H1 b = some u → b ≠ m := fun h z => by
    rw [z, hm] at h
    cases h
  have n2 : ∀ {b : Addr} {u : HO}, H1 b = some u → b ≠ l := fun h z => by
    rw [z, hl] at h
    cases h
  refine ⟨⟨k', l'', f', b _ _ (n1 e) (n2 e) e'⟩, b _ _ (n1 h2) (n2 h2) h2', h3, h4, ?_⟩
  have go : S.sl ≠ m → S.sl ≠ l → SqL K H' S.sl (S.ns.map V.int) := fun q1 q2 => by
    rcases h5' with (h | ⟨u, h⟩) | h
    · exact .inl (.inl (b _ _ q1 q2 h))
    · exact .inl (.inr ⟨u, b _ _ q1 q2 h⟩)
    · exact .inr h
  rcases h5 with (h | ⟨u, h⟩) | h
  · exact go (n1 h) (n2 h)
  · exact go (n1 h) (n2 h)
  · exact .inr h
theorem But.refl (a l : Addr) (H : Hp) : But a l H H := fun _ _ _ _ z => z
theorem But.trans {a l : Addr} {H H1 H2 : Hp} (x : But a l H H1) (y : But a l H1 H2) : But a l H H2 := fun b u p q z => y b u p q (x b u p q z)
theorem But.same {a l : Addr} {H H1 : Hp} (x : Same H H1) : But a l H H1 := fun b u _ _ z => x b u z
theorem cut_to {zs : List Int} {d : Nat} (h : d ≤ zs.length) : cutV (zs.map V.int) none (some (d : Nat)) = (zs.take d).map V.int := by
  unfold cutV
  rw [HT.sIx_nat, HT.sIx_none, List.length_map, Nat.min_eq_left h, List.drop_zero, Nat.sub_zero, List.map_take]
theorem r_lcL {σ : St} {H : Hp} {Q : VK} {K : PySem.W.Frag} {tl : TE} {g : TG} {tt : TT} {te : TE} {vs : List Nat} (h : tl σ H fun x H1 => ∃ a, x = .ref a ∧ (∃ xs, SqL K H1 a xs) ∧ ∀ D, H1 D = none → ∃ W : Nat → Nat → Hp → Prop, (∃ m, W 0 m (upd H1 D (.lst []))) ∧ ∀ i m H, W i m H →
  ((Itl K a).stop i H ∧ Q (.ref D) H) ∨ ((Itl K a).go i H ∧ ∃ Nx : Hp → Prop, (∀ H', Nx H' → ∃ m', m' < m ∧ W (i + 1) m' H') ∧ ∀ x H', (Itl K a).yld i H x H' → g x (wipe σ vs) H' fun σ2 H2 => wipe σ2 vs = wipe σ vs ∧ tt σ2 H2 fun b H3 =>
    if b = true then te σ2 H3 fun y H4 => ∃ acc, H4 D = some (.lst acc) ∧ acc.length < sizeLine ∧ Nx (upd H4 D (.lst (acc ++ [y]))) else Nx H3)) : tLc (iList K tl) g tt te vs σ H Q := h
/-- a for over range(j), what stands behind a break known -/
theorem r_turnsB {σ : St} {H : Hp} {n : St → Hp → Prop} {r : VK} {j : Int} {g : TG} {tb : TS} (h1 : -(2 ^ 62) ≤ j) (h2 : j < 2 ^ 62) (M : St → Hp → Prop) (hM : ∀ σ H, M σ H → n σ H) (Pv : Nat → St → Hp → Prop) (h0 : Pv 0 σ H)
    (hs : (∀ σ H, M σ H → n σ H) → ∀ (i : Nat) σ H, (i : Int) < j → Pv i σ H → g (.int (i : Int)) σ H fun σ2 H2 => tb ⟨Pv (i + 1), r, n, Pv (i + 1)⟩ σ2 H2) (hd : ∀ σ H, Pv j.toNat σ H → M σ H) :
    -(2 ^ 62) ≤ j ∧ j < 2 ^ 62 ∧ ∃ W : Nat → Nat → St → Hp → Prop, (∃ m, W 0 m σ H) ∧ ∀ i m σ H, W i m σ H →
    ((Itr 0 j.toNat).stop i H ∧ n σ H) ∨ ((Itr 0 j.toNat).go i H ∧ ∃ N : St → Hp → Prop, (∀ σ' H', N σ' H' → ∃ m', m' < m ∧ W (i + 1) m' σ' H') ∧ ∀ x H', (Itr 0 j.toNat).yld i H x H' → g x σ H' fun σ2 H2 => tb ⟨N, r, n, N⟩ σ2 H2) :=
  r_turns h1 h2 Pv h0 (hs hM) fun σ H p => hM σ H (hd σ H p)
theorem at_end (a : List Int) (v : Int) : atI ((a ++ [v]).map V.int) ((((a ++ [v]).length : Nat) : Int) - 1) = some (.int v) := by
  rw [show (((a ++ [v]).length : Nat) : Int) - 1 = ((a.length : Nat) : Int) by rw [List.length_append]; show ((a.length + 1 : Nat) : Int) - 1 = _; omega]
  refine atI_nat ?_
  rw [List.getElem?_map, List.getElem?_append_right (Nat.le_refl _), Nat.sub_self]
  rfl
theorem r_lc0 {σ : St} {H : Hp} {Q : VK} {ta : TA} {g : TG} {tt : TT} {te : TE} {vs : List Nat} (h : ta σ H fun ws H1 => ∃ j : Int, ws = [.int j] ∧ -(2 ^ 62) ≤ j ∧ j < 2 ^ 62 ∧ ∀ D, H1 D = none → ∃ W : Nat → Nat → Hp → Prop, (∃ m, W 0 m (upd H1 D (.lst []))) ∧ ∀ i m H, W i m H →
  ((Itr 0 j.toNat).stop i H ∧ Q (.ref D) H) ∨ ((Itr 0 j.toNat).go i H ∧ ∃ Nx : Hp → Prop, (∀ H', Nx H' → ∃ m', m' < m ∧ W (i + 1) m' H') ∧ ∀ x H', (Itr 0 j.toNat).yld i H x H' → g x (wipe σ vs) H' fun σ2 H2 => wipe σ2 vs = wipe σ vs ∧ tt σ2 H2 fun b H3 =>
    if b = true then te σ2 H3 fun y H4 => ∃ acc, H4 D = some (.lst acc) ∧ acc.length < sizeLine ∧ Nx (upd H4 D (.lst (acc ++ [y]))) else Nx H3)) : tLc (iRng1 ta) g tt te vs σ H Q := h

/-! ### more rules of general use -/
theorem r_lcT {σ : St} {H : Hp} {Q : VK} {K : PySem.W.Frag} {tl : TE} {g : TG} {tt : TT} {te : TE} {vs : List Nat} (h : tl σ H fun x H1 => ∃ a, x = .ref a ∧ (∃ xs, SqT K H1 a xs) ∧ ∀ D, H1 D = none → ∃ W : Nat → Nat → Hp → Prop, (∃ m, W 0 m (upd H1 D (.lst []))) ∧ ∀ i m H, W i m H →
  ((Itt K a).stop i H ∧ Q (.ref D) H) ∨ ((Itt K a).go i H ∧ ∃ Nx : Hp → Prop, (∀ H', Nx H' → ∃ m', m' < m ∧ W (i + 1) m' H') ∧ ∀ x H', (Itt K a).yld i H x H' → g x (wipe σ vs) H' fun σ2 H2 => wipe σ2 vs = wipe σ vs ∧ tt σ2 H2 fun b H3 =>
    if b = true then te σ2 H3 fun y H4 => ∃ acc, H4 D = some (.lst acc) ∧ acc.length < sizeLine ∧ Nx (upd H4 D (.lst (acc ++ [y]))) else Nx H3)) : tLc (iTup K tl) g tt te vs σ H Q := h
theorem r_gunl {σ : St} {H : Hp} {K : PySem.W.Frag} {p : Addr} {xs : List V} {n : Nat} {t : TGs} {R : St → Hp → Prop} (hs : SqL K H p xs) (hl : xs.length = n) (h : t xs σ H R) : gUnl K n t (.ref p) σ H R := ⟨p, xs, rfl, hs, hl, h⟩
theorem cut_from {zs : List Int} {d : Nat} : cutV (zs.map V.int) (some (d : Nat)) none = (zs.drop d).map V.int := by
  unfold cutV
  rw [HT.sIx_nat, HT.sIx_none, List.length_map]
  by_cases h : d ≤ zs.length
  · rw [Nat.min_eq_left h, List.take_of_length_le (by rw [List.length_drop, List.length_map]; omega), List.map_drop]
  · rw [Nat.min_eq_right (by omega), List.drop_of_length_le (by rw [List.length_map]; omega), List.drop_of_length_le (by omega)]
    simp
theorem cut_mid {zs : List Int} {d e : Nat} (h : d ≤ e) : cutV (zs.map V.int) (some (d : Nat)) (some (e : Nat)) = ((zs.drop d).take (e - d)).map V.int := by
  unfold cutV
  rw [HT.sIx_nat, HT.sIx_nat, List.length_map]
  by_cases h1 : e ≤ zs.length
  · rw [Nat.min_eq_left h1, Nat.min_eq_left (by omega), List.map_take, List.map_drop]
  · by_cases h2 : d ≤ zs.length
    · rw [Nat.min_eq_right (by omega), Nat.min_eq_left h2, List.map_take, List.map_drop, List.take_of_length_le (by rw [List.length_drop, List.length_map]; omega), List.take_of_length_le (by rw [List.length_drop, List.length_map]; omega)]
    · rw [Nat.min_eq_right (by omega), Nat.min_eq_right (by omega), Nat.sub_self, List.take_zero, List.drop_of_length_le (l := zs) (by omega)]
      simp
theorem cut_to' {zs : List Int} {d : Nat} : cutV (zs.map V.int) none (some (d : Nat)) = (zs.take d).map V.int := by
  unfold cutV
  rw [HT.sIx_nat, HT.sIx_none, List.length_map, List.drop_zero, Nat.sub_zero, List.map_take]
  by_cases h : d ≤ zs.length
  · rw [Nat.min_eq_left h]
  · rw [Nat.min_eq_right (by omega), List.take_of_length_le (by rw [List.length_map]; omega), List.take_of_length_le (by rw [List.length_map]; omega)]
/-- list + list, both of integers -/
theorem r_catI {a b : Addr} {xs ys : List Int} {H : Hp} {Q : VK} (h1 : H a = some (.lst (xs.map V.int))) (h2 : H b = some (.lst (ys.map V.int))) (hl : xs.length + ys.length ≤ 1000) (h : ∀ p H', H p = none → H' p = some (.lst ((xs ++ ys).map V.int)) → Same H H' → Q (.ref p) H') : rCat (.ref a) (.ref b) H Q :=
  ⟨a, b, _, _, rfl, rfl, h1, h2, Nat.le_of_lt (small1000 (by rw [List.length_map, List.length_map]; exact hl)), fun p hp => h p _ hp (by rw [upd_same, cat_ints]) (same_upd hp _)⟩
theorem r_slI {K : PySem.W.Frag} {p : Addr} {xs ys : List Int} {lo hi : Option Int} {H : Hp} {Q : VK} (hs : H p = some (.lst (xs.map V.int))) (e : cutV (xs.map V.int) lo hi = ys.map V.int) (h : ∀ q H', H q = none → H' q = some (.lst (ys.map V.int)) → Same H H' → Q (.ref q) H') : rSlL K (.ref p) lo hi H Q :=
  r_slL (SqL.of hs) fun q hq => h q _ hq (by rw [upd_same, e]) (same_upd hq _)
/-- a new list or tuple -/
theorem r_nw {o : HO} {R : Addr → Hp → Prop} {c : Prop} {H : Hp} (hc : c) (h : ∀ (p : Addr) (H' : Hp), H p = none → H' p = some o → Same H H' → R p H') : c ∧ ∀ p, H p = none → R p (upd H p o) :=
  ⟨hc, fun p hp => h p _ hp upd_same (same_upd hp o)⟩
theorem r_nwI {zs : List Int} {R : Addr → Hp → Prop} {c : Prop} {H : Hp} (hc : c) (h : ∀ (p : Addr) (H' : Hp), H p = none → H' p = some (.lst (zs.map V.int)) → Same H H' → R p H') : c ∧ ∀ p, H p = none → R p (upd H p (.lst (zs.map V.int))) :=
  r_nw hc h
theorem same_tup {K : PySem.W.Frag} {H H' : Hp} {a : Addr} {xs : List V} (e : Same H H') (h : SqT K H a xs) : SqT K H' a xs := by
  rcases h with (h | ⟨o, h⟩) | h
  · exact .inl (.inl (e _ _ h))
  · exact .inl (.inr ⟨o, e _ _ h⟩)
  · exact .inr h
theorem same_seq {K : PySem.W.Frag} {H H' : Hp} {a : Addr} {xs : List V} (e : Same H H') (h : SqL K H a xs ∨ SqT K H a xs) : SqL K H' a xs ∨ SqT K H' a xs := h.elim (fun q => .inl (e.seq q)) fun q => .inr (same_tup e q)
theorem same_away {H1 H' : Hp} {D : Addr} {o : HO} (s : Same H1 H') (n : H1 D = none) : Same H1 (upd H' D o) := fun b u h => by
  rw [upd_ne (ne_of_none h n)]
  exact s b u h
theorem rep1 (n : Nat) (z : Int) : (List.replicate n [V.int z]).flatten = (List.replicate n z).map V.int := by
  induction n with
  | zero => rfl
  | succ n ih => rw [List.replicate_succ, List.replicate_succ, List.flatten_cons, ih]; rfl
/-- [z] * k -/
theorem r_repI {a : Addr} {z k : Int} {H : Hp} {Q : VK} (h1 : H a = some (.lst [.int z])) (h0 : -1000 ≤ k) (hk : k ≤ 1000) (h : ∀ p H', H p = none → H' p = some (.lst ((List.replicate k.toNat z).map V.int)) → Same H H' → Q (.ref p) H') : rRep (.ref a) (.int k) H Q :=
  ⟨a, k, [.int z], rfl, rfl, h1, by omega, by omega, Nat.le_of_lt (small1000 (by show 1 * _ ≤ 1000; omega)), fun p hp => h p _ hp (by rw [upd_same, rep1]) (same_upd hp _)⟩
def sp0 (f : Hp → VK → XK → Prop) : Sp := fun vs H Q E => vs = [] ∧ f H Q E
theorem len0 {f} (vs : List V) (H : Hp) (Q : VK) (E : XK) (h : sp0 f vs H Q E) : vs.length = 0 := by
  obtain ⟨rfl, _⟩ := h
  rfl
theorem ffl {i : Int} (h1 : -(2 ^ 62) ≤ i) (h2 : i < 2 ^ 62) : Builtin.Range.rangeFitsLong i = true := by
  unfold Builtin.Range.rangeFitsLong
  rw [decide_eq_true (by omega), decide_eq_true (by omega)]
  rfl
theorem rgP (n c k : Nat) (hn : n < 2 ^ 60) (h0 : 0 < c) (hc : c < 1000) (hk : k = (n + (c - 1)) / c) : RgC 0 (n : Nat) (c : Nat) k := by
  have hkn : k ≤ n + (c - 1) := by
    rw [hk]
    exact Nat.div_le_self _ _
  have e : Builtin.Range.rangeSize 0 (n : Nat) (c : Nat) = ((k : Nat) : Int) := by
    unfold Builtin.Range.rangeSize
    rw [if_pos (by omega)]
    by_cases z : n = 0
    · subst z
      rw [if_neg (by omega)]
      have : k = 0 := by rw [hk, Nat.zero_add]; exact Nat.div_eq_of_lt (by omega)
      omega
    · rw [if_pos (by omega)]
      have e1 : ((n : Nat) : Int) - 0 - 1 = ((n - 1 : Nat) : Int) := by omega
      rw [e1]
      have e2 : (n + (c - 1)) / c = (n - 1) / c + 1 := by
        rw [show n + (c - 1) = n - 1 + c by omega, Nat.add_div_right _ h0]
      rw [hk, e2]
      simp
  have hs : Builtin.Range.small 0 (n : Nat) (c : Nat) = true := by
    unfold Builtin.Range.small
    rw [e, ffl (by decide) (by decide), ffl (by omega) (by omega), ffl (by omega) (by omega), ffl (by omega) (by omega), if_pos (by omega), ffl (by omega) (by omega)]
    simp
  exact ⟨by omega, by omega, hs, e⟩
/-- list.extend -/
theorem r_extI {a b : Addr} {xs ys : List Int} {H : Hp} {Q : VK} (h1 : H a = some (.lst (xs.map V.int))) (h2 : H b = some (.lst (ys.map V.int))) (hl : xs.length + ys.length ≤ 4000) (h : ∀ H', H' a = some (.lst ((xs ++ ys).map V.int)) → (∀ b o, b ≠ a → H b = some o → H' b = some o) → (∀ H1, Same H1 H → H1 a = none → Same H1 H') → Q .non H') : rExtend (.ref a) [.ref b] H Q :=
  ⟨a, b, _, _, rfl, rfl, h1, h2, Nat.le_trans (by rw [List.length_map, List.length_map]; exact hl) (by decide : 4000 ≤ sizeLine), h _ (by rw [upd_same, cat_ints]) (fun b o n e => by rw [upd_ne n]; exact e) fun H1 s n => same_away s n⟩
/-- a slice of a row, list or tuple -/
theorem r_slSeq {K : PySem.W.Frag} {p : Addr} {xs : List Int} {d e : Nat} {H : Hp} {Q : VK} (hde : d ≤ e) (hs : SqL K H p (xs.map V.int) ∨ SqT K H p (xs.map V.int)) (h : ∀ q H', SqL K H' q (((xs.drop d).take (e - d)).map V.int) ∨ SqT K H' q (((xs.drop d).take (e - d)).map V.int) → Same H H' → Q (.ref q) H') : rSlL K (.ref p) (some (d : Nat)) (some (e : Nat)) H Q ∨ rSlA K (.ref p) (some (d : Nat)) (some (e : Nat)) H Q := by
  rcases hs with hs | hs
  · refine .inl (r_slL hs fun q hq => h q _ (.inl (SqL.of ?_)) (same_upd hq _))
    rw [upd_same, cut_mid hde]
  · refine .inr ⟨p, _, rfl, hs, fun hw => ?_, fun _ q hq => ?_⟩
    · refine h p H (.inr ?_) (Same.refl H)
      obtain ⟨w1, w2⟩ := hw
      rw [HT.sIx_nat, List.length_map] at w1 w2
      by_cases c : d = 0
      · subst c
        rw [List.drop_zero, List.take_of_length_le (by omega)]
        exact hs
      · have e0 : xs.length = 0 := by omega
        have e1 : xs = [] := List.length_eq_zero_iff.mp e0
        subst e1
        simpa using hs
    · refine h q _ (.inr (SqT.of ?_)) (same_upd hq _)
      rw [upd_same, cut_mid hde]
theorem pe_c0 {X : Cx} {k j : Nat} {x : Str} {sp : Sp} {dvs : List V} {p pos : Pos} (c : Cal X.prog X.w X.K X.mg X.base k x sp dvs) (hr : Room j X.A) (hk : k ≤ j) (hg : Gl X x) (hdb : (x == ("__debug__" : Str)) = false := by decide) : PE X (.Call (.Name x p) [] [] pos) (tCall sp dvs C8.E0 tNil) := by
  obtain ⟨f, fd, ps, ds, F, hm, hk', b, d⟩ := c.ex
  exact pe_call0 F (hr.mono hk) hg hm hk' b d pass0 hdb

theorem eqv_ints (a b : List Int) : PyData.eqv (.list (a.map PyData.int)) (.list (b.map PyData.int)) = decide (a = b) := PySem.W.ked_eqvAll a b
/-- two rows of integers compared -/
theorem r_eqIL {K : PySem.W.Frag} {p q : Addr} {a b : List Int} {H : Hp} {Q : VK} (h1 : SqL K H p (a.map V.int)) (h2 : SqL K H q (b.map V.int)) (h : Q (.bl (decide (a = b))) H) : rEqD K (.ref p) (.ref q) H Q :=
  r_eqD (.lst h1 (dpa_ints _)) (.lst h2 (dpa_ints _)) (shaped_ints _) (shaped_ints _) (by rw [eqv_ints]; exact h)
theorem r_neIL {K : PySem.W.Frag} {p q : Addr} {a b : List Int} {H : Hp} {Q : VK} (h1 : SqL K H p (a.map V.int)) (h2 : SqL K H q (b.map V.int)) (h : Q (.bl (!decide (a = b))) H) : rNeD K (.ref p) (.ref q) H Q :=
  r_neD (.lst h1 (dpa_ints _)) (.lst h2 (dpa_ints _)) (shaped_ints _) (shaped_ints _) (by rw [eqv_ints]; exact h)
/-- a for over a text -/
theorem r_eachS {σ : St} {H : Hp} {n : St → Hp → Prop} {r : VK} {g : TG} {tb : TS} {z : Str} (Pv : Nat → St → Hp → Prop) (h0 : Pv 0 σ H)
    (hs : ∀ (i : Nat) (c : Nat) σ H, z.cps[i]? = some c → Pv i σ H → g (.str ⟨#[c]⟩) σ H fun σ2 H2 => tb ⟨Pv (i + 1), r, n, Pv (i + 1)⟩ σ2 H2) (hd : ∀ σ H, Pv z.cps.size σ H → n σ H) :
    ∃ W : Nat → Nat → St → Hp → Prop, (∃ m, W 0 m σ H) ∧ ∀ i m σ H, W i m σ H →
    ((Its z).stop i H ∧ n σ H) ∨ ((Its z).go i H ∧ ∃ N : St → Hp → Prop, (∀ σ' H', N σ' H' → ∃ m', m' < m ∧ W (i + 1) m' σ' H') ∧ ∀ x H', (Its z).yld i H x H' → g x σ H' fun σ2 H2 => tb ⟨N, r, n, N⟩ σ2 H2) := by
  refine r_each z.cps.size Pv h0 (fun i σ H hi p => ⟨hi, ?_⟩) fun σ H p => ⟨Nat.le_refl _, hd σ H p⟩
  rintro x _ ⟨rfl, c, hc, rfl⟩
  exact hs i c σ _ hc p
theorem r_itS {σ : St} {H : Hp} {te : TE} {R : It → Hp → Prop} (h : te σ H fun v H1 => ∃ x, v = .str x ∧ R (Its x) H1) : iStr te σ H R := h
def rLenK (K : Frg) : List V → Hp → VK → Prop := fun xs H Q => ∃ p ys, xs = [.ref p] ∧ (SqL K H p ys ∨ SqT K H p ys) ∧ Q (.int ys.length) H
def rListK (K : Frg) : List V → Hp → VK → Prop := fun xs H Q => ∃ p ys, xs = [.ref p] ∧ (SqL K H p ys ∨ SqT K H p ys) ∧ ∀ l, H l = none → Q (.ref l) (upd H l (.lst ys))
def rTupleK (K : Frg) : List V → Hp → VK → Prop := fun xs H Q => ∃ p ys, xs = [.ref p] ∧ ((SqL K H p ys ∧ ∀ l, H l = none → Q (.ref l) (upd H l (.tup ys))) ∨ (SqT K H p ys ∧ Q (.ref p) H))
theorem small4k {n : Nat} (h : n ≤ 4000) : n < sizeLine := Nat.lt_of_le_of_lt h (by decide)
theorem r_ifTF {b : Bool} {A B : Prop} (h1 : b = true → A) (h2 : b = false → B) : if b = true then A else B := by
  cases b with
  | true => exact h1 rfl
  | false => exact h2 rfl

/-! ### sorted: pairs of a tuple of integers and something, no two with the same integers -/
section
open PyProof.Rows PySem.W PySem.Calls
theorem lexLt_irr : ∀ a : List Int, HT.lexLt a a = false
  | [] => rfl
  | x :: xs => by
    rw [HT.lexLt_cons, if_pos rfl]
    exact lexLt_irr xs
theorem lexLt_asym : ∀ a b : List Int, HT.lexLt a b = true → HT.lexLt b a = false
  | [], [], h => by cases h
  | [], y :: ys, _ => rfl
  | x :: xs, [], h => by cases h
  | x :: xs, y :: ys, h => by
    rw [HT.lexLt_cons] at h ⊢
    by_cases e : x = y
    · rw [if_pos e] at h
      rw [if_pos e.symm]
      exact lexLt_asym xs ys h
    · rw [if_neg e] at h
      rw [if_neg (fun q => e q.symm)]
      have := of_decide_eq_true h
      exact decide_eq_false (by omega)
theorem lexLt_ntr : ∀ a b c : List Int, HT.lexLt b a = false → HT.lexLt c b = false → HT.lexLt c a = false
  | [], _, [], _, _ => rfl
  | [], _, z :: zs, _, _ => rfl
  | x :: xs, [], _, h, _ => by cases h
  | x :: xs, y :: ys, [], _, h => by cases h
  | x :: xs, y :: ys, z :: zs, h1, h2 => by
    rw [HT.lexLt_cons] at h1 h2 ⊢
    by_cases e1 : y = x
    · subst e1
      rw [if_pos rfl] at h1
      by_cases e2 : z = y
      · subst e2
        rw [if_pos rfl] at h2 ⊢
        exact lexLt_ntr xs ys zs h1 h2
      · rw [if_neg e2] at h2 ⊢
        exact h2
    · rw [if_neg e1] at h1
      have h1 := of_decide_eq_false h1
      by_cases e2 : z = y
      · subst e2
        rw [if_neg e1]
        exact decide_eq_false h1
      · rw [if_neg e2] at h2
        have h2 := of_decide_eq_false h2
        rw [if_neg (by omega)]
        exact decide_eq_false (by omega)
theorem lexLt_tri : ∀ a b : List Int, HT.lexLt a b = false → HT.lexLt b a = false → a = b
  | [], [], _, _ => rfl
  | [], y :: ys, h, _ => by cases h
  | x :: xs, [], _, h => by cases h
  | x :: xs, y :: ys, h1, h2 => by
    rw [HT.lexLt_cons] at h1 h2
    by_cases e : x = y
    · subst e
      rw [if_pos rfl] at h1 h2
      rw [lexLt_tri xs ys h1 h2]
    · rw [if_neg e] at h1
      rw [if_neg (fun q => e q.symm)] at h2
      have h1 := of_decide_eq_false h1
      have h2 := of_decide_eq_false h2
      omega
theorem lexLt_tr {a b c : List Int} (h1 : HT.lexLt a b = true) (h2 : HT.lexLt b c = true) : HT.lexLt a c = true := by
  cases h : HT.lexLt a c with
  | true => rfl
  | false =>
    have q := lexLt_ntr c a b h (lexLt_asym _ _ h1)
    rw [q] at h2
    cases h2
theorem swo_key {α : Type} (k : α → List Int) : SrtO.Swo fun v u => HT.lexLt (k v) (k u) := ⟨fun x y h => lexLt_asym _ _ h, fun x y z h1 h2 => lexLt_ntr _ _ _ h1 h2⟩
/-- a tuple of these integers in a heap -/
def IsTI (h : Heap) (q : Addr) (ns : List Int) : Prop := ∃ (o : Obj) (its : List Value) (n : Nat), h.get? q = some o ∧ o.cls = .type "tuple" ∧ o.data = .seq its.toArray n ∧ IntsAre its ns
theorem IsTI.keeps {h h' : Heap} {q : Addr} {ns : List Int} (x : IsTI h q ns) (k : ∀ b o, h.get? b = some o → o.cls = .type "tuple" → h'.get? b = some o) : IsTI h' q ns := by
  obtain ⟨o, its, n, h1, h2, h3, h4⟩ := x
  exact ⟨o, its, n, k _ _ h1 h2, h2, h3, h4⟩
theorem readsAll_ints {h : Heap} : ∀ {its : List Value} {ns : List Int}, IntsAre its ns → ReadsAll h its (ns.map PyData.int) []
  | _, _, .nil => .nil
  | _, _, .cons n t r => .cons (.int n t) (readsAll_ints r)
theorem IsTI.reads {h : Heap} {q : Addr} {ns : List Int} (x : IsTI h q ns) : Reads h (.ref q) (.tuple (ns.map PyData.int)) [] := by
  obtain ⟨o, its, n, h1, h2, h3, h4⟩ := x
  exact .tuple h1 h2 h3 (by simpa using readsAll_ints h4)
theorem lay_ints : ∀ ns : List Int, PyData.canLayAll0 (ns.map PyData.int) = true
  | [] => rfl
  | n :: ns => by
    show (PyData.canLay0 (.int n) && PyData.canLayAll0 (ns.map PyData.int)) = true
    rw [lay_ints ns]
    rfl
theorem lay_kd (ns : List Int) : (PyData.tuple (ns.map PyData.int)).canLay0 = true := lay_ints ns
theorem depth_ints : ∀ ns : List Int, PyData.depthAll (ns.map PyData.int) = 0
  | [] => rfl
  | n :: ns => by
    have e := depth_ints ns
    simp [PyData.depthAll, PyData.depth, e]
theorem depth_kd (ns : List Int) : (PyData.tuple (ns.map PyData.int)).depth ≤ 1 := by
  have e := depth_ints ns
  simp [PyData.depth, e]
theorem eqv_kd (a b : List Int) : PyData.eqv (.tuple (a.map PyData.int)) (.tuple (b.map PyData.int)) = decide (a = b) := PySem.W.ked_eqvAll a b
variable {prog : Program} {w : World} {A : Around} {s : Shared}
theorem ti_eqAt {q q' : Addr} {a b : List Int} (h1 : IsTI s.heap q a) (h2 : IsTI s.heap q' b) (hu : A.units + 1 < cLine) : SeqAt.EqAt A s (.ref q) (.ref q') (decide (a = b)) := by
  have e := SeqAt.eqAt_reads _ _ A s _ _ _ _ h1.reads h2.reads (lay_kd a) (lay_kd b) (by
    have := depth_kd a
    have := Nat.min_le_left (PyData.tuple (a.map PyData.int)).depth (PyData.tuple (b.map PyData.int)).depth
    omega)
  rw [eqv_kd] at e
  exact e
theorem ti_lt {q q' : Addr} {a b : List Int} (h1 : IsTI s.heap q a) (h2 : IsTI s.heap q' b) (hu : A.units < cLine) {E : Value → Shared → Prop} {Q : Bool → Shared → Prop} (h : Q (HT.lexLt a b) s) : wpAny (model prog w) A (oneLt' false (.ref q) (.ref q')) Q E s := by
  obtain ⟨o1, i1, n1, a1, a2, a3, a4⟩ := h1
  obtain ⟨o2, i2, n2, b1, b2, b3, b4⟩ := h2
  refine PySem.W.kat_one _ _ (HT.lt_tupInts (items := i1.toArray) (items2 := i2.toArray) ⟨o1, a1, a2, n1, a3⟩ ⟨o2, b1, b2, n2, b3⟩ (by simpa using a4) (by simpa using b4) hu ?_)
  exact h
/-- such a pair -/
def IsEnt (h : Heap) (v : Value) (ns : List Int) : Prop := ∃ (a q u : Addr) (o : Obj) (n : Nat), v = .ref a ∧ h.get? a = some o ∧ o.cls = .type "tuple" ∧ o.data = .seq #[.ref q, .ref u] n ∧ IsTI h q ns
theorem IsEnt.keeps {h h' : Heap} {v : Value} {ns : List Int} (x : IsEnt h v ns) (k : ∀ b o, h.get? b = some o → o.cls = .type "tuple" → h'.get? b = some o) : IsEnt h' v ns := by
  obtain ⟨a, q, u, o, n, e, h1, h2, h3, h4⟩ := x
  exact ⟨a, q, u, o, n, e, k _ _ h1 h2, h2, h3, h4.keeps k⟩
theorem ents_firsts {h : Heap} {k : Value → List Int} : ∀ {vs : List Value}, (∀ v ∈ vs, IsEnt h v (k v)) → ∃ fs : List Value, PySem.W.KatTups h vs fs ∧ fs.length = vs.length ∧ ∀ f ∈ fs, ∃ q ns, f = Value.ref q ∧ IsTI h q ns
  | [], _ => ⟨[], PySem.W.KatTups.nil, rfl, fun _ hm => by simp at hm⟩
  | v :: vs, hp => by
    obtain ⟨fs, h1, h2, h3⟩ := ents_firsts (vs := vs) fun v' hm => hp v' (List.mem_cons_of_mem _ hm)
    obtain ⟨a, q, u, o, n, e, ho, hc, hd, ht⟩ := hp v (List.mem_cons_self ..)
    subst e
    refine ⟨.ref q :: fs, PySem.W.KatTups.cons ho hc hd rfl h1, by rw [List.length_cons, List.length_cons, h2], fun f hm => ?_⟩
    rcases List.mem_cons.mp hm with rfl | hm
    · exact ⟨q, _, rfl, ht⟩
    · exact h3 f hm
theorem ent_cmp {vs : List Value} {k : Value → List Int} (hu : A.units + 1 < cLine) (hp : ∀ v ∈ vs, IsEnt s.heap v (k v)) (hi : ∀ v ∈ vs, ∀ u ∈ vs, k v = k u → v = u) : SrtO.Cmp prog w A s (tuples' false) (fun p => p.1 ∈ vs) (SrtO.lt2 fun v u => HT.lexLt (k v) (k u)) := by
  intro p q hm hm'
  have h1 := hp _ hm
  have h2 := hp _ hm'
  have hij := hi _ hm _ hm'
  show wpAny (model prog w) A (keyLt' (tuples' false) p.1 q.1) (fun r s' => s' = s ∧ r = HT.lexLt (k p.1) (k q.1)) (fun _ _ => False) s
  generalize k p.1 = x at h1 hij ⊢
  generalize k q.1 = y at h2 hij ⊢
  obtain ⟨a, q1, u, o, n, e, ho, hc, hd, t1⟩ := h1
  obtain ⟨a', q2, u', o', n', e', ho', hc', hd', t2⟩ := h2
  rw [e, e'] at hij ⊢
  refine PySem.W.kat_lt ho hd ho' hd' ?_
  show PySem.W.KatLex prog w A false (decide (2 < 2)) _ [(.ref q1, .ref q2), (.ref u, .ref u')] 0 s
  refine PySem.W.kat_cons (ti_eqAt t1 t2 hu prog w _ _ ?_)
  refine PySem.W.kat_go (fun e1 => ?_) (fun e1 => ?_)
  · have ex : x = y := of_decide_eq_true e1
    have ea := hij ex
    have ea : a = a' := by
      injection ea
    subst ea
    have eo : o = o' := Option.some.inj (ho.symm.trans ho')
    subst eo
    rw [hd] at hd'
    have eu : u = u' := by
      injection hd' with e1 e2
      simp at e1
      exact e1.2
    subst eu
    refine PySem.W.kat_yes (PySem.W.kat_cons (SeqAt.EqAt.same _ prog w _ _ ?_))
    refine PySem.W.kat_go (fun e2 => ?_) (fun e2 => by cases e2)
    refine PySem.W.kat_yes (PySem.W.kat_nil ⟨rfl, ?_⟩)
    rw [ex, lexLt_irr]
    rfl
  · exact PySem.W.kat_no (ti_lt t1 t2 (by omega) ⟨rfl, rfl⟩)
theorem ents_sortable {a : Addr} {vs : List Value} {k : Value → List Int} (hu : A.units + 1 < cLine) (h0 : 0 < vs.length) (hp : ∀ v ∈ vs, IsEnt s.heap v (k v)) (hi : ∀ v ∈ vs, ∀ u ∈ vs, k v = k u → v = u) (ha : ∀ o, s.heap.get? a = some o → o.cls ≠ .type "tuple") : SrtO.SortableO prog w A s a vs fun v u => HT.lexLt (k v) (k u) := by
  intro h' keep
  have kp : ∀ b o, s.heap.get? b = some o → o.cls = .type "tuple" → h'.get? b = some o := fun b o e c => keep b o (fun z => by subst z; exact ha o e c) e
  have hp' : ∀ v ∈ vs, IsEnt h' v (k v) := fun v hm => (hp v hm).keeps kp
  obtain ⟨fs, h1, h2, h3⟩ := ents_firsts hp'
  refine ⟨tuples' false, fun Q E hq => ?_, ent_cmp hu hp' hi⟩
  refine PySem.W.kat_kind (T := .type "tuple") h1 (by omega) (fun f hm => ?_) (by rfl) ?_
  · obtain ⟨q, ns, rfl, o, its, n, g1, g2, g3, g4⟩ := h3 f hm
    have e : PySem.W.Looks (model prog w) h' (typeOf (.ref q)) o.cls := (PySem.W.Looks.ld g1).andThen .now
    rw [g2] at e
    exact e
  · have e : (Value.type "tuple" != Value.type "tuple") = false := by first | decide +kernel | rfl | decide
    rw [e]
    exact hq
theorem sorted_ents {l : Addr} {vs : List Value} {k : Value → List Int} {E : Value → Shared → Prop} {Q : Value → Shared → Prop} (hu : A.units + 10 < cLine) (hl : s.heap.IsList l vs.toArray) (hz : vs.length ≤ sizeLine) (hp : ∀ v ∈ vs, IsEnt s.heap v (k v)) (hi : ∀ v ∈ vs, ∀ u ∈ vs, k v = k u → v = u)
    (h : ∀ (h' : Heap) (d : Addr) (out : List Value), SrtO.Srtd (fun v u => HT.lexLt (k v) (k u)) out → SrtO.Stb (fun v u => HT.lexLt (k v) (k u)) out vs → (∀ b o, s.heap.get? b = some o → h'.get? b = some o) → s.heap.objs.size ≤ d → (∃ n, h'.get? d = some (seqObj "list" out.toArray n)) → Q (.ref d) { s with heap := h' }) :
    wpAny (model prog w) A (call (.builtin "sorted") [.ref l]) Q E s := by
  refine SrtO.sorted_ord (swo_key k) hl hz (fun h2 h₁ a ha kk => ?_) fun out hs hb => ?_
  · refine ents_sortable (s := { s with heap := h₁ }) (by
      show A.units + 1 + 1 + 1 < cLine
      omega) (by omega) (fun v hm => (hp v hm).keeps fun b o e _ => (kk b o e).2) hi fun o e => ?_
    have e' : some o = some (seqObj "list" vs.toArray 0) := e.symm.trans ha
    cases e'
    intro c
    exact absurd (Value.type.inj c) (by decide)
  · exact h _ _ out hs hb (fun b o e => sortedAll_old e) (Nat.le_succ _) (sortedAll_at s.heap vs out.toArray)
/-! ### sorted: tuples of integers of any lengths -/
theorem one_lt_ti {q q' : Addr} {a b : List Int} {x : Bool} (h1 : IsTI s.heap q a) (h2 : IsTI s.heap q' b) (hu : A.units + 1 < cLine) {E : Value → Shared → Prop} {Q : Bool → Shared → Prop} (h : Q (HT.lexLt a b) s) : wpAny (model prog w) A (oneLt' x (.ref q) (.ref q')) Q E s := by
  cases x with
  | false => exact ti_lt h1 h2 (by omega) h
  | true =>
    obtain ⟨⟨cls, dd, data, sl⟩, i1, n1, a1, a2, a3, a4⟩ := h1
    obtain ⟨⟨cls2, dd2, data2, sl2⟩, i2, n2, b1, b2, b3, b4⟩ := h2
    simp only at a2 a3 b2 b3
    subst a2 a3 b2 b3
    rw [oneLt'_eq]
    simp only [if_true]
    refine wpAny_bind (wpAny_cRoomFor (by omega) ?_)
    refine wpAny_bind (wpAny_callSpecialIfBound?_slot (name := Str.ofString "__lt__") ⟨_, a1, rfl⟩ PySem.F.slot_tuple_lt (call_meets PySem.F.slot_tuple_lt ⟨_, a1, rfl⟩ PySem.F.entry_tuple_lt (PySem.F.args_tuple_lt_2 _ _) (HT.tuple_lt_ints q q' i1.toArray i2.toArray n1 n2 dd dd2 sl sl2 a b (by simpa using a4) (by simpa using b4)) ⟨a1, b1, ?_⟩))
    exact wpAny_truthy_bool h
theorem ti_lex {fin : Bool} {Q : Bool → Shared → Prop} : ∀ {vs us : List Value} {a b : List Int}, IntsAre vs a → IntsAre us b → (i : Nat) → (hf : a.length + us.length = a.length + us.length) → (∀ r, (∀ c d : List Int, c.length = a.length → d.length = b.length → True) → (r = HT.lexLt a b ∨ (r = fin ∧ (a.length ≤ b.length ∨ b.length ≤ a.length) ∧ HT.lexLt a b = decide (a.length < b.length) ∧ a.take b.length = b.take a.length)) → Q r s) →
    PySem.W.KatLex prog w A true fin Q (vs.zip us) i s
  | _, _, [], b, .nil, hb, i, _, h => by
    show Q fin s
    refine h fin (fun _ _ _ _ => trivial) (.inr ⟨rfl, .inl (Nat.zero_le _), ?_, by simp⟩)
    cases b with
    | nil => rfl
    | cons y ys => rfl
  | _, _, x :: a, [], .cons _ _ ra, .nil, i, _, h => by
    show Q fin s
    exact h fin (fun _ _ _ _ => trivial) (.inr ⟨rfl, .inr (Nat.zero_le _), rfl, by simp⟩)
  | _, _, x :: a, y :: b, .cons _ t ra, .cons _ u rb, i, _, h => by
    show PySem.W.KatLex prog w A true fin Q ((.int x t, .int y u) :: _) i s
    refine PySem.W.kat_cons (SeqAt.EqAt.int_int x t y u prog w _ _ ?_)
    refine PySem.W.kat_go (fun e1 => ?_) (fun e1 => ?_)
    · have ex : x = y := by simpa using e1
      subst ex
      refine PySem.W.kat_yes (ti_lex ra rb (i + 1) rfl fun r _ hr => h r (fun _ _ _ _ => trivial) ?_)
      rw [HT.lexLt_cons, if_pos rfl]
      rcases hr with hr | ⟨hr, h1, h2, h3⟩
      · exact .inl hr
      · refine .inr ⟨hr, ?_, ?_, ?_⟩
        · rw [List.length_cons, List.length_cons]
          omega
        · rw [h2, List.length_cons, List.length_cons]
          exact decide_eq_decide.mpr (by omega)
        · rw [List.length_cons, List.length_cons, List.take_succ_cons, List.take_succ_cons, h3]
    · have ex : ¬ x = y := by simpa using e1
      refine PySem.W.kat_no ?_
      have e3 : HT.lexLt (x :: a) (y :: b) = decide (x < y) := by rw [HT.lexLt_cons, if_neg ex]
      have hq : Q (decide (x < y)) s := h _ (fun _ _ _ _ => trivial) (.inl e3.symm)
      cases hb : (true && i == 0) with
      | true => exact oneLt_int hq
      | false => exact PySem.W.kat_one _ _ (PyProof.Rows.lt_int hq)
theorem ti_tuples {q q' : Addr} {a b : List Int} (h1 : IsTI s.heap q a) (h2 : IsTI s.heap q' b) {E : Value → Shared → Prop} {Q : Bool → Shared → Prop} (h : Q (HT.lexLt a b) s) : wpAny (model prog w) A (keyLt' (tuples' true) (.ref q) (.ref q')) Q E s := by
  obtain ⟨o1, i1, n1, a1, a2, a3, a4⟩ := h1
  obtain ⟨o2, i2, n2, b1, b2, b3, b4⟩ := h2
  refine PySem.W.kat_lt a1 a3 b1 b3 ?_
  have la := a4.length
  have lb := b4.length
  show PySem.W.KatLex prog w A true (decide (i1.toArray.size < i2.toArray.size)) Q (i1.zip i2) 0 s
  refine ti_lex a4 b4 0 rfl fun r _ hr => ?_
  rcases hr with hr | ⟨hr, _, h3, _⟩
  · rw [hr]
    exact h
  · rw [hr]
    have e : decide (i1.toArray.size < i2.toArray.size) = HT.lexLt a b := by
      rw [h3, List.size_toArray, List.size_toArray, la, lb]
    rw [e]
    exact h
def TiV (h : Heap) (v : Value) (ns : List Int) : Prop := ∃ q, v = .ref q ∧ IsTI h q ns
theorem ti_firsts {h : Heap} {k : Value → List Int} : ∀ {vs : List Value}, (∀ v ∈ vs, TiV h v (k v)) → (∀ v ∈ vs, k v ≠ []) → ∃ fs : List Value, PySem.W.KatTups h vs fs ∧ fs.length = vs.length ∧ ∀ f ∈ fs, ∃ x t, f = Value.int x t
  | [], _, _ => ⟨[], PySem.W.KatTups.nil, rfl, fun _ hm => by simp at hm⟩
  | v :: vs, hp, hn => by
    obtain ⟨fs, h1, h2, h3⟩ := ti_firsts (vs := vs) (fun v' hm => hp v' (List.mem_cons_of_mem _ hm)) (fun v' hm => hn v' (List.mem_cons_of_mem _ hm))
    obtain ⟨q, e, o, its, n, ho, hc, hd, ht⟩ := hp v (List.mem_cons_self ..)
    have hne := hn v (List.mem_cons_self ..)
    subst e
    revert hne ht
    generalize k (.ref q) = ns
    intro ht hne
    cases ht with
    | nil => exact absurd rfl hne
    | @cons x t vs' ns' r =>
      refine ⟨.int x t :: fs, PySem.W.KatTups.cons ho hc hd rfl h1, by rw [List.length_cons, List.length_cons, h2], fun f hm => ?_⟩
      rcases List.mem_cons.mp hm with rfl | hm
      · exact ⟨x, t, rfl⟩
      · exact h3 f hm
theorem ti_first {v : Value} {ns : List Int} (h : TiV s.heap v ns) {E : Value → Shared → Prop} {Q : Option Value → Shared → Prop} (q : ∀ r : Option Value, (r.isSome = true ↔ ns ≠ []) → Q r s) : wpAny (model prog w) A (firstOfTuple' v) Q E s := by
  obtain ⟨a, rfl, o, its, n, ho, hc, hd, ht⟩ := h
  rw [PySem.W.kas_first_eq]
  refine wpAny_bind (PySem.W.Looks.here (show PySem.W.Looks (model prog w) s.heap (typeOf (.ref a)) o.cls from (PySem.W.Looks.ld ho).andThen .now) ?_)
  rw [hc, if_neg (by first | decide | simp)]
  refine wpAny_bind (listItems_at ho hd (wpAny_pure ?_))
  refine q _ ?_
  cases ht with
  | nil => simp
  | cons x t r => simp
theorem ti_firstsM {k : Value → List Int} {E : Value → Shared → Prop} : ∀ {vs : List Value} {Q : List (Option Value) → Shared → Prop}, (∀ v ∈ vs, TiV s.heap v (k v)) → (∀ rs : List (Option Value), rs.length = vs.length → (∀ (i : Nat) (v : Value) (r : Option Value), vs[i]? = some v → rs[i]? = some r → (r.isSome = true ↔ k v ≠ [])) → Q rs s) → wpAny (model prog w) A (vs.mapM firstOfTuple') Q E s
  | [], Q, _, h => by
    rw [List.mapM_nil]
    exact wpAny_pure (h [] rfl fun i v r e => by simp at e)
  | v :: vs, Q, hp, h => by
    rw [List.mapM_cons]
    refine wpAny_bind (ti_first (hp v (List.mem_cons_self ..)) fun r hr => ?_)
    refine wpAny_bind (ti_firstsM (vs := vs) (fun v' hm => hp v' (List.mem_cons_of_mem _ hm)) fun rs hl hrs => wpAny_pure (h (r :: rs) (by rw [List.length_cons, List.length_cons, hl]) fun i v' r' e1 e2 => ?_))
    cases i with
    | zero =>
      cases (show some v = some v' from e1)
      cases (show some r = some r' from e2)
      exact hr
    | succ i => exact hrs i v' r' (by simpa using e1) (by simpa using e2)
theorem ti_types {E : Value → Shared → Prop} {k : Value → List Int} {vs : List Value} {Q : Option Value → Shared → Prop} (h0 : 0 < vs.length) (hp : ∀ v ∈ vs, TiV s.heap v (k v)) (h : Q (some (.type "tuple")) s) : wpAny (model prog w) A (oneTypeOnly' vs.toArray) Q E s := by
  obtain ⟨v1, vr, rfl⟩ : ∃ v1 vr, vs = v1 :: vr := by
    match vs, h0 with
    | v1 :: vr, _ => exact ⟨v1, vr, rfl⟩
  rw [oneTypeOnly'_eq, List.mapM_toArray, map_eq_pure_bind]
  refine wpAny_bind (wpAny_bind (PySem.W.kas_mapM (r := .type "tuple") _ (fun v hv Q' hq => ?_) (wpAny_pure ?_)))
  · obtain ⟨a, rfl, o, its, n, ho, hc, hd, ht⟩ := hp v hv
    have e : PySem.W.Looks (model prog w) s.heap (typeOf (.ref a)) o.cls := (PySem.W.Looks.ld ho).andThen .now
    rw [hc] at e
    exact e.here hq
  · have hall2 : ((List.map (fun _ => Value.type "tuple") (v1 :: vr)).toArray.all fun x => x == Value.type "tuple") = true := by
      simp only [List.all_toArray, List.all_map, List.all_eq_true]
      intro _ _
      rfl
    have h1 : (List.map (fun _ => Value.type "tuple") (v1 :: vr)).toArray[0]? = some (Value.type "tuple") := by simp
    rw [h1]
    simp only [hall2, if_true]
    exact wpAny_pure h
theorem ti_kind {k : Value → List Int} {vs : List Value} (h0 : 0 < vs.length) (hp : ∀ v ∈ vs, TiV s.heap v (k v)) : ∃ κ, (κ = tuples' true ∨ κ = general' ∨ κ = oneType') ∧ ∀ (Q : SortKind → Shared → Prop) (E : Value → Shared → Prop), Q κ s → wpAny (model prog w) A (keyKind' vs.toArray) Q E s := by
  by_cases hn : ∀ v ∈ vs, k v ≠ []
  · obtain ⟨fs, h1, h2, h3⟩ := ti_firsts hp hn
    refine ⟨tuples' true, .inl rfl, fun Q E hq => ?_⟩
    refine PySem.W.kat_kind (T := .type "int") h1 (by omega) (fun f hm => ?_) (by rfl) ?_
    · obtain ⟨x, t, rfl⟩ := h3 f hm
      exact PySem.W.Looks.now
    · have e : (Value.type "int" != Value.type "tuple") = true := by first | decide +kernel | rfl | decide
      rw [e]
      exact hq
  · obtain ⟨v, hv, hve⟩ : ∃ v ∈ vs, k v = [] := by
      refine Classical.byContradiction fun q => hn fun v hv e => q ⟨v, hv, e⟩
    obtain ⟨i, hi, hiv⟩ := List.getElem_of_mem hv
    have hiv : vs[i]? = some v := by rw [List.getElem?_eq_getElem hi, hiv]
    have no : ∀ rs : List (Option Value), rs.length = vs.length → (∀ (i : Nat) (v : Value) (r : Option Value), vs[i]? = some v → rs[i]? = some r → (r.isSome = true ↔ k v ≠ [])) → (rs.toArray.all fun x => x.isSome) = false := fun rs hl hrs => by
      cases hh : (rs.toArray.all fun x => x.isSome) with
      | false => rfl
      | true =>
        rw [List.all_toArray, List.all_eq_true] at hh
        have hir : i < rs.length := by omega
        have h1 := hrs i v rs[i] hiv (List.getElem?_eq_getElem hir)
        exact absurd hve (h1.mp (hh _ (List.getElem_mem hir)))
    by_cases hf : ∀ v0, vs[0]? = some v0 → k v0 ≠ []
    · refine ⟨general', .inr (.inl rfl), fun Q E hq => ?_⟩
      rw [kat_kind_eq, List.mapM_toArray, map_eq_pure_bind]
      refine wpAny_bind (wpAny_bind (ti_firstsM hp fun rs hl hrs => wpAny_pure ?_))
      rw [if_neg (by rw [no rs hl hrs]; decide)]
      have h00 : 0 < rs.length := by omega
      have e0 : (rs.toArray[0]?.bind id).isSome = true := by
        have hv0 : vs[0]? = some vs[0] := List.getElem?_eq_getElem h0
        have := (hrs 0 _ rs[0] hv0 (List.getElem?_eq_getElem h00)).mpr (hf _ hv0)
        simp [h00, this]
      rw [if_pos e0]
      exact wpAny_pure hq
    · obtain ⟨v0, hv0, hk0⟩ : ∃ v0, vs[0]? = some v0 ∧ k v0 = [] := by
        refine Classical.byContradiction fun q => hf fun v hv e => q ⟨v, hv, e⟩
      refine ⟨oneType', .inr (.inr rfl), fun Q E hq => ?_⟩
      rw [kat_kind_eq, List.mapM_toArray, map_eq_pure_bind]
      refine wpAny_bind (wpAny_bind (ti_firstsM hp fun rs hl hrs => wpAny_pure ?_))
      rw [if_neg (by rw [no rs hl hrs]; decide)]
      have h00 : 0 < rs.length := by omega
      have e0 : ¬ (rs.toArray[0]?.bind id).isSome = true := by
        have h1 := hrs 0 _ rs[0] hv0 (List.getElem?_eq_getElem h00)
        have h2 : ¬ rs[0].isSome = true := fun z => absurd hk0 (h1.mp z)
        simp [h00]
        simpa using h2
      rw [if_neg e0]
      refine wpAny_bind (ti_types h0 hp ?_)
      exact wpAny_pure hq
theorem ti_cmp {vs : List Value} {k : Value → List Int} {κ : SortKind} (hκ : κ = tuples' true ∨ κ = general' ∨ κ = oneType') (hu : A.units + 1 < cLine) (hp : ∀ v ∈ vs, TiV s.heap v (k v)) : SrtO.Cmp prog w A s κ (fun p => p.1 ∈ vs) (SrtO.lt2 fun v u => HT.lexLt (k v) (k u)) := by
  intro p q hm hm'
  obtain ⟨a, e1, h1⟩ := hp _ hm
  obtain ⟨b, e2, h2⟩ := hp _ hm'
  show wpAny (model prog w) A (keyLt' κ p.1 q.1) (fun r s' => s' = s ∧ r = HT.lexLt (k p.1) (k q.1)) (fun _ _ => False) s
  generalize k p.1 = x at h1 ⊢
  generalize k q.1 = y at h2 ⊢
  rw [e1, e2]
  rcases hκ with e | e | e
  · subst e
    exact ti_tuples h1 h2 ⟨rfl, rfl⟩
  · subst e
    exact one_lt_ti (x := false) h1 h2 hu ⟨rfl, rfl⟩
  · subst e
    exact one_lt_ti (x := true) h1 h2 hu ⟨rfl, rfl⟩
theorem IsTI.of_keeps {h h' : Heap} {v : Value} {ns : List Int} (x : TiV h v ns) (k : ∀ b o, h.get? b = some o → o.cls = .type "tuple" → h'.get? b = some o) : TiV h' v ns := by
  obtain ⟨q, e, t⟩ := x
  exact ⟨q, e, t.keeps k⟩
theorem tis_sortable {a : Addr} {vs : List Value} {k : Value → List Int} (hu : A.units + 1 < cLine) (h0 : 0 < vs.length) (hp : ∀ v ∈ vs, TiV s.heap v (k v)) (ha : ∀ o, s.heap.get? a = some o → o.cls ≠ .type "tuple") : SrtO.SortableO prog w A s a vs fun v u => HT.lexLt (k v) (k u) := by
  intro h' keep
  have kp : ∀ b o, s.heap.get? b = some o → o.cls = .type "tuple" → h'.get? b = some o := fun b o e c => keep b o (fun z => by subst z; exact ha o e c) e
  have hp' : ∀ v ∈ vs, TiV h' v (k v) := fun v hm => IsTI.of_keeps (hp v hm) kp
  obtain ⟨κ, hκ, hk⟩ := ti_kind (prog := prog) (w := w) (A := A) (s := { s with heap := h' }) h0 hp'
  exact ⟨κ, hk, ti_cmp hκ hu hp'⟩
/-- the keys of a dict, one by one -/
theorem rawSrc {d : Addr} {es : Array DictEntry} {ep : Nat} (lo : (d == sysModules) = false) : KdlSrc prog w "dict" d d es.size (fun i v => ∃ en, es[i]? = some en ∧ v = en.key) (fun h => DT.Raw h d es ep) where
  type := fun _ hm => hm.typeIs
  there := fun _ hm => ⟨hm.lt, hm.lt⟩
  keep := fun _ _ hm hk => hm.at' fun o e => hk d (.inl rfl) o e
  notList := by decide
  notTuple := by decide
  hint := fun _ _ _ _ hm hq => kdl_hint_dict hm.typeIs hq
  iter := fun A s hh hm => by
    obtain ⟨o, ho, hc, hdat⟩ := id hm
    refine ⟨_, fun i h => h.IsKeyIter s.heap.objs.size d i es.size ep ∧ DT.Raw h d es ep, fun _ _ hq => L2.iter_keys lo ho hc hdat hq, ?_, ⟨⟨_, Heap.get?_push_size _ rfl, rfl, rfl⟩, hm.push _⟩⟩
    have hne : d ≠ s.heap.objs.size := Nat.ne_of_lt hm.lt
    refine ⟨fun b hb => by simp at hb; simp [hb], fun i h h' st hk => ⟨st.1.at fun o e => hk _ (by simp) o e, st.2.at' fun o e => hk d (by simp) o e⟩, fun i s Q E hi st hQ => ?_, fun s Q E st hQ => ?_, fun i s Q E st hQ => wpAny_pyIter_keyiter st.1 hQ⟩
    · obtain ⟨od, hod, hoc, hdd⟩ := id st.2
      refine L2.next_key_item st.1 hod hdd rfl (Array.getElem?_eq_getElem hi) fun h' hit' hs' => ?_
      exact hQ _ h' s.toks ⟨_, Array.getElem?_eq_getElem hi, rfl⟩ ⟨hit', st.2.at' fun o e => hs'.extBut d o hne e⟩ fun b o hb e => hs'.extBut b o (fun h => hb (by simp [h])) e
    · obtain ⟨od, hod, hoc, hdd⟩ := id st.2
      exact L2.next_key_end hh st.1 hod hdd rfl (Nat.le_refl _) fun h' he' => hQ h' s.toks fun b o hb e => he' b o (fun h => hb (by simp [h])) e
end
/-! ### .. as rules of the layer -/
section
open PyProof.Rows PySem.W PySem.Calls
theorem ints_uniq : ∀ {vs : List Value} {a b : List Int}, IntsAre vs a → IntsAre vs b → a = b
  | _, _, _, .nil, .nil => rfl
  | _, _, _, .cons n t r, .cons _ _ r2 => by rw [ints_uniq r r2]
theorem IsTI.uniq {h : Heap} {q : Addr} {a b : List Int} (x : IsTI h q a) (y : IsTI h q b) : a = b := by
  obtain ⟨o, i, n, h1, h2, h3, h4⟩ := x
  obtain ⟨o', i', n', g1, g2, g3, g4⟩ := y
  rw [h1] at g1
  cases g1
  rw [h3] at g3
  have e : i = i' := by
    injection g3 with e1 e2
    simpa using e1
  subst e
  exact ints_uniq h4 g4
theorem IsEnt.uniq {h : Heap} {v : Value} {a b : List Int} (x : IsEnt h v a) (y : IsEnt h v b) : a = b := by
  obtain ⟨t, q, u, o, n, e, h1, h2, h3, h4⟩ := x
  obtain ⟨t', q', u', o', n', e', g1, g2, g3, g4⟩ := y
  rw [e] at e'
  cases e'
  rw [h1] at g1
  cases g1
  rw [h3] at g3
  have e : q = q' := by
    injection g3 with e1 e2
    simp at e1
    exact e1.1
  subst e
  exact h4.uniq g4
open Classical in
noncomputable def entK (h : Heap) (v : Value) : List Int := if hx : ∃ ns, IsEnt h v ns then Classical.choose hx else []
theorem entK_is {h : Heap} {v : Value} {ns : List Int} (x : IsEnt h v ns) : entK h v = ns := by
  have hx : ∃ ns, IsEnt h v ns := ⟨ns, x⟩
  unfold entK
  rw [dif_pos hx]
  exact (Classical.choose_spec hx).uniq x
open Classical in
noncomputable def tiK (h : Heap) (v : Value) : List Int := if hx : ∃ ns, TiV h v ns then Classical.choose hx else []
theorem TiV.uniq {h : Heap} {v : Value} {a b : List Int} (x : TiV h v a) (y : TiV h v b) : a = b := by
  obtain ⟨q, e, t⟩ := x
  obtain ⟨q', e', t'⟩ := y
  rw [e] at e'
  cases e'
  exact t.uniq t'
theorem tiK_is {h : Heap} {v : Value} {ns : List Int} (x : TiV h v ns) : tiK h v = ns := by
  have hx : ∃ ns, TiV h v ns := ⟨ns, x⟩
  unfold tiK
  rw [dif_pos hx]
  exact (Classical.choose_spec hx).uniq x
structure Ent where
  t : Addr
  q : Addr
  u : Addr
  k : List Int
def EntAt (H : Hp) (e : Ent) : Prop := H e.t = some (.tup [.ref e.q, .ref e.u]) ∧ H e.q = some (.tup (e.k.map V.int))
variable {X : Cx}
theorem ti_of {pins : List (Addr × Obj)} {σ : L2.St} {H : Hp} {s : Shared} (I : L2.Inv X pins σ H s) {q : Addr} {ns : List Int} (h : H q = some (.tup (ns.map V.int))) : IsTI s.heap q ns := by
  obtain ⟨_, its, rv, o, ho, hc, n, hd⟩ := I.hok _ _ h
  exact ⟨o, its, n, ho, hc, hd, rv.ints⟩
theorem ent_of {pins : List (Addr × Obj)} {σ : L2.St} {H : Hp} {s : Shared} (I : L2.Inv X pins σ H s) {e : Ent} (h : EntAt H e) : IsEnt s.heap (.ref e.t) e.k := by
  obtain ⟨h1, h2⟩ := h
  obtain ⟨_, its, rv, o, ho, hc, n, hd⟩ := I.hok _ _ h1
  obtain ⟨u1, u2, rfl, r1, r2⟩ := vals2 rv
  cases r1
  cases r2
  exact ⟨e.t, e.q, e.u, o, n, rfl, ho, hc, hd, ti_of I h2⟩
theorem vals_refs {α : Type} (f : α → Addr) : ∀ {l : List α} {us : List Value}, Vals (l.map fun z => V.ref (f z)) us → us = l.map fun z => Value.ref (f z)
  | [], us, h => by cases h; rfl
  | z :: l, us, h => by
    cases h with
    | cons r t =>
      cases r
      rw [vals_refs f t]
      rfl
theorem vals_refsB {α : Type} (f : α → Addr) : ∀ (l : List α), Vals (l.map fun z => V.ref (f z)) (l.map fun z => Value.ref (f z))
  | [] => .nil
  | z :: l => .cons rfl (vals_refsB f l)
theorem perm_up {α β : Type} (f : α → β) : ∀ {out : List β} {l : List α}, out.Perm (l.map f) → ∃ zs : List α, zs.Perm l ∧ zs.map f = out := by
  intro out l h
  generalize hm : l.map f = m at h
  induction h generalizing l with
  | nil =>
    cases l with
    | nil => exact ⟨[], .refl _, rfl⟩
    | cons x l => cases hm
  | @cons b out m p ih =>
    cases l with
    | nil => cases hm
    | cons x l =>
      injection hm with e1 e2
      obtain ⟨zs, pz, ez⟩ := ih e2
      exact ⟨x :: zs, pz.cons x, by rw [List.map_cons, e1, ez]⟩
  | swap b c m =>
    cases l with
    | nil => cases hm
    | cons x l =>
      cases l with
      | nil => cases hm
      | cons y l =>
        injection hm with e1 e2
        injection e2 with e2 e3
        exact ⟨y :: x :: l, .swap _ _ _, by rw [List.map_cons, List.map_cons, e1, e2, e3]⟩
  | trans p1 p2 ih1 ih2 =>
    obtain ⟨z2, q2, e2⟩ := ih2 hm
    obtain ⟨z1, q1, e1⟩ := ih1 e2
    exact ⟨z1, q1.trans q2, e1⟩
/-- sorted(xs), xs a list of pairs of a tuple of integers and an object, no two with the same integers -/
def rSortedE (K : PySem.W.Frag) : List V → Hp → VK → Prop := fun vs H Q => ∃ (a : Addr) (es : List Ent), vs = [V.ref a] ∧ SqL K H a (es.map fun e => V.ref e.t) ∧ (∀ e ∈ es, EntAt H e) ∧ (es.map (·.k)).Nodup ∧
  ∀ (es' : List Ent) (p : Addr), es'.Perm es → (es'.map (·.k)).Pairwise (fun x y => HT.lexLt x y = true) → H p = none → Q (.ref p) (upd H p (.lst (es'.map fun e => V.ref e.t)))
theorem strict_of {l : List (List Int)} (h1 : l.Pairwise (fun x y => HT.lexLt y x = false)) (h2 : l.Nodup) : l.Pairwise (fun x y => HT.lexLt x y = true) := by
  refine (List.Pairwise.and h1 h2).imp fun {x y} ⟨a, b⟩ => ?_
  cases h : HT.lexLt x y with
  | true => rfl
  | false => exact absurd (lexLt_tri _ _ h a) b
theorem cr_sortedE (hu : X.A.units + 64 < cLine) : CallR X (.builtin "sorted") (rSortedE X.K) := by
  intro pins s σ H vs us Q I r h
  obtain ⟨a, es, rfl, hs, he, hn, q⟩ := h
  obtain ⟨its, rv, hl, hz⟩ := I.list hs
  obtain ⟨u, rfl, ru⟩ := vals1 r
  obtain rfl : u = Value.ref a := ru
  have ei := vals_refs (fun e : Ent => e.t) rv
  have at_ : ∀ v ∈ its, ∃ e ∈ es, v = .ref e.t ∧ entK s.heap v = e.k ∧ IsEnt s.heap v e.k := fun v hv => by
    rw [ei] at hv
    obtain ⟨e, hm, rfl⟩ := List.mem_map.mp hv
    have x := ent_of I (he e hm)
    exact ⟨e, hm, rfl, entK_is x, x⟩
  have inj : ∀ e ∈ es, ∀ f ∈ es, e.k = f.k → e = f := fun e h1 f h2 hk => by
    obtain ⟨i, hi, ei⟩ := List.getElem_of_mem h1
    obtain ⟨j, hj, ej⟩ := List.getElem_of_mem h2
    have := List.pairwise_iff_getElem.mp hn
    rcases Nat.lt_trichotomy i j with c | c | c
    · have q := this i j (by rw [List.length_map]; exact hi) (by rw [List.length_map]; exact hj) c
      rw [List.getElem_map, List.getElem_map, ei, ej] at q
      exact absurd hk q
    · subst c
      exact ei.symm.trans ej
    · have q := this j i (by rw [List.length_map]; exact hj) (by rw [List.length_map]; exact hi) c
      rw [List.getElem_map, List.getElem_map, ei, ej] at q
      exact absurd hk.symm q
  refine sorted_ents (k := entK s.heap) (by omega) hl.isList (by rw [← rv.length]; exact hz) (fun v hv => ?_) (fun v hv u hu' hk => ?_) fun h' d out h1 h2 kp hd hn' => ?_
  · obtain ⟨e, _, _, e2, x⟩ := at_ v hv
    rw [e2]
    exact x
  · obtain ⟨e, m1, e1, e2, _⟩ := at_ v hv
    obtain ⟨f, m2, f1, f2, _⟩ := at_ u hu'
    rw [e2, f2] at hk
    rw [e1, f1, inj e m1 f m2 hk]
  · have pe := h2.perm
    rw [ei] at pe
    obtain ⟨zs, pz, ez⟩ := perm_up (fun e : Ent => Value.ref e.t) pe
    obtain ⟨n, hn'⟩ := hn'
    have srt : (zs.map (·.k)).Pairwise (fun x y => HT.lexLt y x = false) := by
      have h1' := h1
      rw [← ez] at h1'
      have h1'' := List.pairwise_map.mp h1'
      rw [List.pairwise_map]
      refine List.Pairwise.imp_of_mem (fun {x y} hx hy hxy => ?_) h1''
      have ex := entK_is (ent_of I (he x (pz.mem_iff.mp hx)))
      have ey := entK_is (ent_of I (he y (pz.mem_iff.mp hy)))
      have hxy : HT.lexLt (entK s.heap (.ref y.t)) (entK s.heap (.ref x.t)) = false := hxy
      rw [ex, ey] at hxy
      exact hxy
    have nd : (zs.map (·.k)).Nodup := (pz.map (·.k)).nodup_iff.mpr hn
    refine ⟨.ref d, upd H d (.lst (zs.map fun e => V.ref e.t)), I.laid (t' := s.toks) kp hd ⟨?_, out, n, ?_, hn'⟩, rfl, q zs d pz (strict_of srt nd) (I.hok.fresh hd)⟩
    · rw [List.length_map, pz.length_eq]
      rw [List.length_map] at hz
      exact hz
    · rw [← ez]
      exact vals_refsB (fun e : Ent => e.t) zs
/-- sorted(d), d a dict whose keys are tuples of integers: the keys themselves, in order -/
def rSortedTD : List V → Hp → VK → Prop := fun vs H Q => ∃ (a : Addr) (kvs : List (List L2.Key × V)) (ks : List (List Int)), vs = [.ref a] ∧ H a = some (.dT kvs) ∧ kvs.map (·.1) = ks.map (·.map Sum.inl) ∧
  ∀ (p : Addr) (qs : List (Addr × List Int)), (qs.map (·.2)).Perm ks → (qs.map (·.2)).Pairwise (fun x y => HT.lexLt x y = true) → (∀ z ∈ qs, H z.1 = some (.tup (z.2.map V.int))) → H p = none → Q (.ref p) (upd H p (.lst (qs.map fun z => V.ref z.1)))
theorem kv_ints (ns : List Int) : (ns.map (Sum.inl : Int → L2.Key)).map kV = ns.map V.int := by
  rw [List.map_map]
  rfl
theorem cr_sortedTD (hcalm : X.calm = true) (hu : X.A.units + 64 < cLine) : CallR X (.builtin "sorted") rSortedTD := by
  intro pins s σ H xs us Q I r h
  obtain ⟨a, kvs, ks, rfl, ha, hks, q⟩ := h
  obtain ⟨u, eu, rx⟩ := vals1 r
  subst eu
  cases rx
  obtain ⟨z, lo, xs', rel, o, es, ep, ho, hx, hdat, hes, hn⟩ := (show ObjOk X.prog X.w H s.heap a (.dT kvs) from I.hok a _ ha)
  have l1 : kvs.length = xs'.length := Paired.length rel
  have l2 : es.size = xs'.length := by
    have e := congrArg List.length hes
    rw [Array.length_toList, List.length_map] at e
    exact e
  have l3 : kvs.length = ks.length := by
    have e := congrArg List.length hks
    rw [List.length_map, List.length_map] at e
    exact e
  have hr : DT.Raw s.heap a es ep := ⟨o, ho, hx, hdat⟩
  have at_ : ∀ (j : Nat) (e : Addr × List Int), ((xs'.map (·.2.1)).zip ks)[j]? = some e → H e.1 = some (.tup (e.2.map V.int)) := by
    intro j e hj
    obtain ⟨h1, h2⟩ := List.getElem?_zip_eq_some.mp hj
    rw [List.getElem?_map] at h1
    obtain ⟨x, hx1, hx2⟩ := Option.map_eq_some_iff.mp h1
    have hjl : j < kvs.length := by
      have := (List.getElem?_eq_some_iff.mp hx1).1
      omega
    obtain ⟨b, hb, r1, r2, r3⟩ := L2.paired_get rel (List.getElem?_eq_getElem hjl)
    rw [hx1] at hb
    cases hb
    have hk : (kvs.map (·.1))[j]? = some kvs[j].1 := by rw [List.getElem?_map, List.getElem?_eq_getElem hjl]; rfl
    rw [hks, List.getElem?_map, h2] at hk
    have hk : e.2.map Sum.inl = kvs[j].1 := Option.some.inj hk
    rw [← hx2, r2, ← hk, kv_ints]
  refine Calls.call_function_entry PyProof.Rows.kind_sorted PyProof.Rows.plain_sorted PyProof.Rows.entry_sorted (PyProof.Rows.args_sorted1 _) ?_
  unfold Builtin.«sorted»
  refine wpAny_bind (m := checkCount "sorted" 1 1 _) (wpAny_pure ?_)
  refine wpAny_bind (PySem.W.kdu_collect (A := X.A.in1) (rawSrc (es := es) (ep := ep) lo) (I.ok.hd hcalm) hr (by rw [l2, ← l1]; exact z) fun h' tk acc hk hacc => ?_)
  have hal : acc.toList.length = es.size := by rw [Array.length_toList, hacc.1]
  have hae : acc.toList = ((xs'.map (·.2.1)).zip ks).map fun e => Value.ref e.1 := by
    refine List.ext_getElem? fun j => ?_
    by_cases hj : j < acc.toList.length
    · have hj2 : j < xs'.length := by omega
      obtain ⟨en, he, hv⟩ := hacc.2 j acc.toList[j] (by rw [← Array.getElem?_toList]; exact List.getElem?_eq_getElem hj)
      rw [← Array.getElem?_toList, hes, List.getElem?_map, List.getElem?_eq_getElem hj2] at he
      have he : entryOfKey (tupleKind (mixKind X.prog X.w)) xs'[j] = en := Option.some.inj he
      rw [List.getElem?_eq_getElem hj, hv, ← he, List.getElem?_map]
      have hz : ((xs'.map (·.2.1)).zip ks)[j]? = some (xs'[j].2.1, ks[j]'(by omega)) := by
        rw [List.getElem?_zip_eq_some]
        exact ⟨by rw [List.getElem?_map, List.getElem?_eq_getElem hj2]; rfl, List.getElem?_eq_getElem (by omega)⟩
      rw [hz]
      rfl
    · rw [List.getElem?_eq_none (by omega), List.getElem?_eq_none]
      rw [List.length_map, List.length_zip, List.length_map]
      omega
  have I1 : L2.Inv X pins σ H { s with heap := h', toks := tk } := I.kept hk
  refine wpAny_bind (wpAny_newList ?_ (by rw [hal, l2, ← l1]; exact z))
  have hoL : (h'.push (seqObj "list" acc.toList.toArray 0)).get? h'.objs.size = some (seqObj "list" acc.toList.toArray 0) := Heap.get?_push_size _ rfl
  have hkeep : ∀ b o, h'.get? b = some o → b ≠ h'.objs.size ∧ (h'.push (seqObj "list" acc.toList.toArray 0)).get? b = some o := fun b o e => ⟨Nat.ne_of_lt (Heap.lt_size e), Heap.get?_push_of_some _ e⟩
  show wpAny _ _ _ _ _ { s with heap := h'.push (seqObj "list" acc.toList.toArray 0), toks := tk }
  have tis : ∀ v ∈ acc.toList, TiV s.heap v (tiK s.heap v) := fun v hv => by
    rw [hae] at hv
    obtain ⟨e, hm, rfl⟩ := List.mem_map.mp hv
    obtain ⟨j, hj⟩ := List.mem_iff_getElem?.mp hm
    have x : TiV s.heap (.ref e.1) e.2 := ⟨e.1, rfl, ti_of I (at_ j e hj)⟩
    rw [tiK_is x]
    exact x
  refine wpAny_bind (wpAny_holding (wpAny_call_entry PyProof.Rows.slot_list_sort ⟨_, hoL, rfl⟩ PyProof.Rows.entry_list_sort
    (SrtO.list_sort_ord (s := { s with heap := h'.push (seqObj "list" acc.toList.toArray 0), toks := tk }) (swo_key (tiK s.heap)) hoL (by rw [hal, l2, ← l1]; exact z) (fun h2 => ?_) fun out hs hb => ⟨_, rfl, ?_⟩) (PyProof.Rows.args_list_sort _)))
  · refine tis_sortable (by
      show X.A.units + 1 + 1 + 1 < cLine
      omega) (by omega) (fun v hv => IsTI.of_keeps (tis v hv) fun b o e _ => (hkeep b o (hk b o e)).2) fun o e => ?_
    have e' : some o = some (seqObj "list" acc.toList.toArray 0) := e.symm.trans hoL
    cases e'
    intro c
    exact absurd (Value.type.inj c) (by decide)
  · have pe := hb.perm
    rw [hae] at pe
    obtain ⟨zs, pz, ez⟩ := perm_up (fun e : Addr × List Int => Value.ref e.1) pe
    obtain ⟨e', he'⟩ := PyProof.Rows.sortedHeap_at (vs := acc.toList) (out := out.toArray) hoL
    have hzk : ∀ e ∈ zs, H e.1 = some (.tup (e.2.map V.int)) := fun e hm => by
      obtain ⟨j, hj⟩ := List.mem_iff_getElem?.mp (pz.mem_iff.mp hm)
      exact at_ j e hj
    have hks2 : ((xs'.map (·.2.1)).zip ks).map (·.2) = ks := List.map_snd_zip (by rw [List.length_map]; omega)
    have pks : (zs.map (·.2)).Perm ks := by
      have q := pz.map (·.2)
      rw [hks2] at q
      exact q
    have nd : ks.Nodup := by
      have e1 : xs'.map (·.1) = ks.map (·.map Sum.inl) := by
        rw [← hks]
        clear hn hes l1 l2 l3 at_ hae hal hacc tis pe pz hks2 hks ha z
        induction rel with
        | nil => rfl
        | cons r t ih =>
          rw [List.map_cons, List.map_cons, ih, r.1]
      rw [e1] at hn
      exact List.Pairwise.of_map _ (fun a b h e => h (congrArg _ e)) hn
    have srt : (zs.map (·.2)).Pairwise (fun x y => HT.lexLt y x = false) := by
      have h1' := hs
      rw [← ez] at h1'
      have h1'' := List.pairwise_map.mp h1'
      rw [List.pairwise_map]
      refine List.Pairwise.imp_of_mem (fun {x y} hx hy hxy => ?_) h1''
      have ex := tiK_is (h := s.heap) (v := .ref x.1) ⟨x.1, rfl, ti_of I (hzk x hx)⟩
      have ey := tiK_is (h := s.heap) (v := .ref y.1) ⟨y.1, rfl, ti_of I (hzk y hy)⟩
      have hxy : HT.lexLt (tiK s.heap (.ref y.1)) (tiK s.heap (.ref x.1)) = false := hxy
      rw [ex, ey] at hxy
      exact hxy
    have hn0 : H h'.objs.size = none := I1.hok.fresh (Nat.le_refl _)
    refine wpAny_pure ⟨_, rfl, .ref h'.objs.size, upd H h'.objs.size (.lst (zs.map fun z => V.ref z.1)), I1.laid (t' := tk) (fun b u e => ?_) (Nat.le_refl _) ⟨?_, out, e', ?_, he'⟩, rfl, q h'.objs.size zs pks (strict_of srt (pks.nodup_iff.mpr nd)) hzk hn0⟩
    · exact (PyProof.Rows.sortedHeap_old (hkeep b u e).1 (Heap.lt_size (hkeep b u e).2)).trans (hkeep b u e).2
    · have e1 := pz.length_eq
      rw [List.length_map, e1, List.length_zip, List.length_map]
      omega
    · rw [← ez]
      exact vals_refsB (fun e : Addr × List Int => e.1) zs
end

local macro_rules | `(tactic| walk_at "rd1") => `(tactic| first
  | (with_reducible refine r_sl ?_)
  | (with_reducible refine r_part ?_)
  | (with_reducible refine r_some ?_)
  | (with_reducible refine r_nopart ?_)
  | (with_reducible refine r_rng2 ?_)
  | (with_reducible refine r_rng3 ?_)
  | (with_reducible refine r_itL ?_)
  | (with_reducible refine r_itT ?_)
  | (with_reducible refine r_lcT ?_)
  | (with_reducible refine r_lcL ?_)
  | (with_reducible refine r_lc0 ?_))
local macro_rules | `(tactic| walk_at "ri1") => `(tactic| first
  | (with_reducible refine r_sl ?_)
  | (with_reducible refine r_part ?_)
  | (with_reducible refine r_some ?_)
  | (with_reducible refine r_nopart ?_)
  | (with_reducible refine r_rng2 ?_)
  | (with_reducible refine r_rng3 ?_)
  | (with_reducible refine r_itL ?_)
  | (with_reducible refine r_itT ?_)
  | (with_reducible refine r_lcT ?_)
  | (with_reducible refine r_lcL ?_)
  | (with_reducible refine r_lc0 ?_))

local macro_rules | `(tactic| walk_at "rd1") => `(tactic| first
  | (with_reducible refine r_callS ?_)
  | (with_reducible refine r_methS ?_)
  | (with_reducible refine r_raz ?_)
  | (with_reducible refine r_ost ?_)
  | (with_reducible refine r_xf ?_))
local macro_rules | `(tactic| walk_at "ri1") => `(tactic| first
  | (with_reducible refine r_callS ?_)
  | (with_reducible refine r_methS ?_)
  | (with_reducible refine r_raz ?_)
  | (with_reducible refine r_ost ?_)
  | (with_reducible refine r_xf ?_))
local macro_rules | `(tactic| walk_at "rh1") => `(tactic| first
  | (with_reducible refine r_callS ?_)
  | (with_reducible refine r_methS ?_)
  | (with_reducible refine r_raz ?_)
  | (with_reducible refine r_ost ?_)
  | (with_reducible refine r_xf ?_))

/-! ### nested values, and where they stand -/
theorem hu65 {A : Around} {k : Nat} (hr : Room k A) : A.units + 65 < cLine := by
  have := hr.un
  omega
theorem ps_never {X : Cx} {st : Stmt} : PS X st (fun _ _ _ => False) := ⟨fun _ _ _ _ _ _ h => h.elim⟩
inductive Vl where
  | lf (k : Str) (r : List PyData)
  | ls (xs : List Vl)
  | mp (es : List (List Int × Vl))
def kd (k : List Int) : PyData := .tuple (k.map PyData.int)
mutual
def Vl.dat : Vl → PyData
  | .lf k r => .tuple (.str k :: r)
  | .ls xs => .tuple [.str "list", .tuple (datL xs)]
  | .mp es => .tuple [.str "map", .tuple (datM es)]
def datL : List Vl → List PyData
  | [] => []
  | x :: xs => x.dat :: datL xs
def datM : List (List Int × Vl) → List PyData
  | [] => []
  | (k, v) :: es => .tuple [kd k, v.dat] :: datM es
end
/-- leaves -/
inductive Lf : Str → List PyData → Prop
  | null : Lf "null" []
  | truth (b : Bool) : Lf "truth" [.bool b]
  | number (m e : Int) : Lf "number" [.int m, .int e]
  | bytes (os : List Int) (h : os.length ≤ 300) : Lf "bytes" [kd os]
  | text (ps : List Int) (h : ps.length ≤ 200) : Lf "text" [kd ps]
mutual
def Vl.ok : Nat → Vl → Prop
  | _, .lf k r => Lf k r
  | 0, .ls _ => False
  | n + 1, .ls xs => xs.length ≤ 49 ∧ vokL n xs
  | 0, .mp _ => False
  | n + 1, .mp es => es.length ≤ 49 ∧ (es.map (·.1)).Pairwise (fun x y => HT.lexLt x y = true) ∧ (∀ e ∈ es, e.1.length ≤ 200) ∧ vokM n es
def vokL : Nat → List Vl → Prop
  | _, [] => True
  | n, x :: xs => x.ok n ∧ vokL n xs
def vokM : Nat → List (List Int × Vl) → Prop
  | _, [] => True
  | n, (_, v) :: es => v.ok n ∧ vokM n es
end
theorem vokL_app : ∀ {n : Nat} {xs ys : List Vl}, vokL n xs → vokL n ys → vokL n (xs ++ ys)
  | _, [], _, _, h => h
  | _, x :: xs, _, h1, h2 => ⟨h1.1, vokL_app h1.2 h2⟩
theorem vokL_mem : ∀ {n : Nat} {xs : List Vl}, vokL n xs → ∀ x ∈ xs, x.ok n
  | _, [], _, x, h => absurd h (by simp)
  | _, y :: ys, h, x, hx => by
    rcases List.mem_cons.mp hx with e | e
    · rw [e]
      exact h.1
    · exact vokL_mem h.2 x e
theorem vokM_mem : ∀ {n : Nat} {es : List (List Int × Vl)}, vokM n es → ∀ e ∈ es, e.2.ok n
  | _, [], _, x, h => absurd h (by simp)
  | _, (k, v) :: ys, h, x, hx => by
    rcases List.mem_cons.mp hx with e | e
    · rw [e]
      exact h.1
    · exact vokM_mem h.2 x e
theorem vokM_of : ∀ {n : Nat} {es : List (List Int × Vl)}, (∀ e ∈ es, e.2.ok n) → vokM n es
  | _, [], _ => trivial
  | _, (k, v) :: ys, h => ⟨h _ (List.mem_cons_self ..), vokM_of fun e he => h e (List.mem_cons_of_mem _ he)⟩
theorem datL_app : ∀ (xs ys : List Vl), datL (xs ++ ys) = datL xs ++ datL ys
  | [], _ => rfl
  | x :: xs, ys => congrArg (x.dat :: ·) (datL_app xs ys)
theorem datM_map : ∀ (es : List (List Int × Vl)), datM es = es.map fun e => .tuple [kd e.1, e.2.dat]
  | [] => rfl
  | (k, v) :: es => congrArg (PyData.tuple [kd k, v.dat] :: ·) (datM_map es)
theorem datL_map : ∀ (xs : List Vl), datL xs = xs.map Vl.dat
  | [] => rfl
  | x :: xs => congrArg (x.dat :: ·) (datL_map xs)
mutual
inductive Tp (H : Hp) : V → PyData → Prop
  | non : Tp H .non .none
  | bl (b : Bool) : Tp H (.bl b) (.bool b)
  | int (i : Int) : Tp H (.int i) (.int i)
  | str (x : Str) : Tp H (.str x) (.str x)
  | tup {a : Addr} {xs : List V} {ds : List PyData} : H a = some (.tup xs) → TpAll H xs ds → Tp H (.ref a) (.tuple ds)
inductive TpAll (H : Hp) : List V → List PyData → Prop
  | nil : TpAll H [] []
  | cons {v : V} {vs : List V} {d : PyData} {ds : List PyData} : Tp H v d → TpAll H vs ds → TpAll H (v :: vs) (d :: ds)
end
/-- tuples stay -/
def Tk (H H' : Hp) : Prop := ∀ a xs, H a = some (.tup xs) → H' a = some (.tup xs)
theorem Tk.refl (H : Hp) : Tk H H := fun _ _ h => h
theorem Tk.trans {H H1 H2 : Hp} (a : Tk H H1) (b : Tk H1 H2) : Tk H H2 := fun c xs h => b c xs (a c xs h)
theorem Same.tk {H H' : Hp} (s : Same H H') : Tk H H' := fun a xs h => s a _ h
theorem tk_put {H : Hp} {a : Addr} {xs : List V} {o : HO} (h : H a = some (.lst xs)) : Tk H (upd H a o) := fun b ys hb => by
  rw [upd_ne (fun e => by rw [e, h] at hb; cases hb)]
  exact hb
theorem tk_but {H H' : Hp} {a : Addr} {xs : List V} (h : H a = some (.lst xs)) (k : ∀ b o, b ≠ a → H b = some o → H' b = some o) : Tk H H' := fun b ys hb => k b _ (fun e => by rw [e, h] at hb; cases hb) hb
theorem keep_tk {K : Frg} {S : SC} {H H' : Hp} (L : LS K S H) (k : Keep S H H') : Tk H H' := by
  obtain ⟨k1, l, f, e⟩ := L.st
  exact tk_but e fun b o n h => k b o n h
mutual
theorem Tp.tk {H H' : Hp} (k : Tk H H') : ∀ (d : PyData) (v : V), Tp H v d → Tp H' v d
  | .none, _, h => by cases h; exact .non
  | .bool b, _, h => by cases h; exact .bl b
  | .int i, _, h => by cases h; exact .int i
  | .str x, _, h => by cases h; exact .str x
  | .tuple ds, _, h => by
    cases h with
    | tup h1 h2 => exact .tup (k _ _ h1) (TpAll.tk k ds _ h2)
  | .list ds, _, h => by cases h
  | .dict ds, _, h => by cases h
theorem TpAll.tk {H H' : Hp} (k : Tk H H') : ∀ (ds : List PyData) (vs : List V), TpAll H vs ds → TpAll H' vs ds
  | [], _, h => by cases h; exact .nil
  | d :: ds, _, h => by
    cases h with
    | cons h1 h2 => exact .cons (Tp.tk k d _ h1) (TpAll.tk k ds _ h2)
end
mutual
theorem Tp.dp {K : Frg} {H : Hp} : ∀ (d : PyData) (v : V), Tp H v d → Dp K H v d
  | .none, _, h => by cases h; exact .non
  | .bool b, _, h => by cases h; exact .bl b
  | .int i, _, h => by cases h; exact .int i
  | .str x, _, h => by cases h; exact .str x
  | .tuple ds, _, h => by
    cases h with
    | tup h1 h2 => exact .tup (SqT.of h1) (TpAll.dp ds _ h2)
  | .list ds, _, h => by cases h
  | .dict ds, _, h => by cases h
theorem TpAll.dp {K : Frg} {H : Hp} : ∀ (ds : List PyData) (vs : List V), TpAll H vs ds → DpAll K H vs ds
  | [], _, h => by cases h; exact .nil
  | d :: ds, _, h => by
    cases h with
    | cons h1 h2 => exact .cons (Tp.dp d _ h1) (TpAll.dp ds _ h2)
end
theorem tp_tup {H : Hp} {v : V} {ds : List PyData} (h : Tp H v (.tuple ds)) : ∃ a xs, v = .ref a ∧ H a = some (.tup xs) ∧ TpAll H xs ds := by
  cases h with
  | tup h1 h2 => exact ⟨_, _, rfl, h1, h2⟩
theorem tp_ints {H : Hp} : ∀ (ns : List Int), TpAll H (ns.map V.int) (ns.map PyData.int)
  | [] => .nil
  | n :: ns => .cons (.int n) (tp_ints ns)
theorem tp_intsB {H : Hp} : ∀ {xs : List V} (ns : List Int), TpAll H xs (ns.map PyData.int) → xs = ns.map V.int
  | _, [], h => by
    cases h
    rfl
  | _, n :: ns, h => by
    cases h with
    | cons h t =>
      cases h
      rw [tp_intsB ns t]
      rfl
theorem tp_kd {H : Hp} {a : Addr} {ns : List Int} (h : H a = some (.tup (ns.map V.int))) : Tp H (.ref a) (kd ns) := .tup h (tp_ints ns)
theorem tp_kdB {H : Hp} {v : V} {ns : List Int} (h : Tp H v (kd ns)) : ∃ a, v = .ref a ∧ H a = some (.tup (ns.map V.int)) := by
  obtain ⟨a, xs, rfl, h1, h2⟩ := tp_tup h
  rw [tp_intsB ns h2] at h1
  exact ⟨a, rfl, h1⟩
theorem tpAll_app {H : Hp} : ∀ {xs ys : List V} {ds es : List PyData}, TpAll H xs ds → TpAll H ys es → TpAll H (xs ++ ys) (ds ++ es)
  | _, _, _, _, .nil, h => h
  | _, _, _, _, .cons h1 h2, h => .cons h1 (tpAll_app h2 h)
theorem tpAll_len {H : Hp} : ∀ {xs : List V} {ds : List PyData}, TpAll H xs ds → xs.length = ds.length
  | _, _, .nil => rfl
  | _, _, .cons _ h => congrArg (· + 1) (tpAll_len h)
theorem tpAll_get {H : Hp} : ∀ {xs : List V} {ds : List PyData} {i : Nat} {x : V}, TpAll H xs ds → xs[i]? = some x → ∃ d, ds[i]? = some d ∧ Tp H x d
  | [], _, _, _, _, e => by simp at e
  | x :: xs, _, 0, _, .cons h t, e => by
    cases (show some x = some _ from e)
    exact ⟨_, rfl, h⟩
  | x :: xs, _, i + 1, _, .cons h t, e => by
    obtain ⟨d, e1, h1⟩ := tpAll_get (i := i) t (by simpa using e)
    exact ⟨d, by simpa using e1, h1⟩
theorem lay_kds : ∀ (ks : List (List Int)), PyData.canLayAll0 (ks.map kd) = true
  | [] => rfl
  | k :: ks => by
    show (PyData.canLay0 (kd k) && PyData.canLayAll0 (ks.map kd)) = true
    rw [lay_kds ks, show PyData.canLay0 (kd k) = true from lay_kd k]
    rfl
theorem depth_kd1 (k : List Int) : (kd k).depth ≤ 1 := depth_kd k
theorem depth_kds : ∀ (ks : List (List Int)), PyData.depthAll (ks.map kd) ≤ 1
  | [] => by simp [PyData.depthAll]
  | k :: ks => by
    have e := depth_kds ks
    have e2 := depth_kd k
    show max (PyData.depth (kd k)) (PyData.depthAll (ks.map kd)) ≤ 1
    exact Nat.max_le.mpr ⟨e2, e⟩
theorem shaped_kd (k : List Int) : SeqAt.shaped (kd k) = true := by
  unfold SeqAt.shaped
  rw [show PyData.canLay0 (kd k) = true from lay_kd k, decide_eq_true (Nat.le_trans (depth_kd1 k) (by decide))]
  rfl
theorem shaped_kds (ks : List (List Int)) : SeqAt.shaped (.list (ks.map kd)) = true := by
  unfold SeqAt.shaped
  rw [show PyData.canLay0 (.list (ks.map kd)) = true from lay_kds ks, decide_eq_true]
  · rfl
  · have e := depth_kds ks
    show PyData.depthAll (ks.map kd) + 1 ≤ 64
    omega
theorem eqv_kds (k : List Int) : ∀ (ks : List (List Int)), ((ks.map kd).any fun z => PyData.eqv z (kd k)) = decide (k ∈ ks)
  | [] => rfl
  | x :: ks => by
    show (PyData.eqv (kd x) (kd k) || ((ks.map kd).any fun z => PyData.eqv z (kd k))) = _
    rw [eqv_kds k ks, show PyData.eqv (kd x) (kd k) = decide (x = k) from eqv_kd x k]
    by_cases e : x = k
    · rw [e]
      simp
    · rw [decide_eq_false e]
      have : decide (k ∈ x :: ks) = decide (k ∈ ks) := decide_eq_decide.mpr ⟨fun q => by
        rcases List.mem_cons.mp q with q | q
        · exact absurd q.symm e
        · exact q, fun q => List.mem_cons_of_mem _ q⟩
      rw [this]
      rfl

/-! ### events of a value -/
inductive Ev where
  | op (m : Bool)
  | ky (k : List Int)
  | lf (k : Str) (r : List PyData)
  | cl
def kindOf_ (m : Bool) : Str := if m then "map" else "list"
def Ev.dat : Ev → PyData
  | .op m => .tuple [.str "open", .str (kindOf_ m)]
  | .ky k => .tuple [.str "key", kd k]
  | .lf k r => .tuple [.str "leaf", .tuple (.str k :: r)]
  | .cl => .tuple [.str "close"]
mutual
def Vl.evs : Vl → List Ev
  | .lf k r => [.lf k r]
  | .ls xs => .op false :: (evsL xs ++ [.cl])
  | .mp es => .op true :: (evsM es ++ [.cl])
def evsL : List Vl → List Ev
  | [] => []
  | x :: xs => x.evs ++ evsL xs
def evsM : List (List Int × Vl) → List Ev
  | [] => []
  | (k, v) :: es => .ky k :: (v.evs ++ evsM es)
end
theorem evsL_app : ∀ (xs ys : List Vl), evsL (xs ++ ys) = evsL xs ++ evsL ys
  | [], _ => rfl
  | x :: xs, ys => by
    show x.evs ++ evsL (xs ++ ys) = x.evs ++ evsL xs ++ evsL ys
    rw [evsL_app xs ys, List.append_assoc]
theorem evsM_app : ∀ (xs ys : List (List Int × Vl)), evsM (xs ++ ys) = evsM xs ++ evsM ys
  | [], _ => rfl
  | (k, v) :: xs, ys => by
    show Ev.ky k :: (v.evs ++ evsM (xs ++ ys)) = Ev.ky k :: (v.evs ++ evsM xs) ++ evsM ys
    rw [evsM_app xs ys, List.cons_append, List.append_assoc]
theorem evsL_one (x : Vl) : evsL [x] = x.evs := by
  show x.evs ++ [] = x.evs
  rw [List.append_nil]
theorem evsM_one (k : List Int) (x : Vl) : evsM [(k, x)] = .ky k :: x.evs := by
  show Ev.ky k :: (x.evs ++ []) = _
  rw [List.append_nil]
theorem evsL_sub {xs : List Vl} {i : Nat} {x : Vl} (h : xs[i]? = some x) : (evsL (xs.take i)).length + x.evs.length ≤ (evsL xs).length := by
  have e : xs = xs.take i ++ (x :: xs.drop (i + 1)) := by
    obtain ⟨hi, e⟩ := List.getElem?_eq_some_iff.mp h
    rw [← e, List.getElem_cons_drop, List.take_append_drop]
  have q := congrArg (fun l => (evsL l).length) e
  have q : (evsL xs).length = (evsL (xs.take i ++ (x :: xs.drop (i + 1)))).length := q
  rw [evsL_app, List.length_append] at q
  have q2 : (evsL (x :: xs.drop (i + 1))).length = x.evs.length + (evsL (xs.drop (i + 1))).length := List.length_append
  omega
theorem evsM_sub {xs : List (List Int × Vl)} {i : Nat} {k : List Int} {x : Vl} (h : xs[i]? = some (k, x)) : (evsM (xs.take i)).length + 1 + x.evs.length ≤ (evsM xs).length := by
  have e : xs = xs.take i ++ ((k, x) :: xs.drop (i + 1)) := by
    obtain ⟨hi, e⟩ := List.getElem?_eq_some_iff.mp h
    rw [← e, List.getElem_cons_drop, List.take_append_drop]
  have q := congrArg (fun l => (evsM l).length) e
  have q : (evsM xs).length = (evsM (xs.take i ++ ((k, x) :: xs.drop (i + 1)))).length := q
  rw [evsM_app, List.length_append] at q
  have q2 : (evsM ((k, x) :: xs.drop (i + 1))).length = x.evs.length + (evsM (xs.drop (i + 1))).length + 1 := congrArg (· + 1) List.length_append
  omega
def evD (es : List Ev) : List PyData := es.map Ev.dat
theorem evD_app (a b : List Ev) : evD (a ++ b) = evD a ++ evD b := List.map_append

theorem r_din {σ : St} {H : Hp} {Q : VK} {td ty : TE} (h : ty σ H fun y H1 => td σ H1 fun x H2 => ∃ a o, x = .ref a ∧ DGet H2 a y o ∧ Q (.bl o.isSome) H2) : tDIn ty td σ H Q := h
theorem r_dput {σ : St} {H : Hp} {n b c : St → Hp → Prop} {r : VK} {td ty tv : TE} (h : tv σ H fun v H1 => td σ H1 fun x H2 => ty σ H2 fun y H3 => ∃ a H4, x = .ref a ∧ DPut H3 a y v H4 ∧ n σ H4) : sDPut td ty tv ⟨n, r, b, c⟩ σ H := h

/-! ### heaps, step by step: what one change leaves, what many leave -/
/-- a alone is changed, and it was no tuple -/
def Eb (a : Addr) (H H' : Hp) : Prop := (∀ b, b ≠ a → H' b = H b) ∧ ∀ xs, H a ≠ some (.tup xs)
/-- all but o stays, tuples stay wherever they are -/
def Ch (o : List Addr) (H H' : Hp) : Prop := ∀ x u, H x = some u → (x ∈ o → ∃ xs, u = .tup xs) → H' x = some u
section
variable {o o2 : List Addr} {H H1 H2 H' : Hp} {a x : Addr} {u : HO} {xs : List V}
theorem Eb.get (e : Eb a H H') (n : x ≠ a) (h : H x = some u) : H' x = some u := (e.1 x n).trans h
theorem Eb.upd {o : HO} (h : H a = some u) (n : ∀ xs, u ≠ .tup xs) : Eb a H (upd H a o) := ⟨fun b hb => upd_ne hb, fun xs e => by rw [h] at e; exact n xs (Option.some.inj e)⟩
theorem Ch.get (c : Ch o H H') (n : x ∉ o) (h : H x = some u) : H' x = some u := c x u h fun z => absurd z n
theorem Ch.tup (c : Ch o H H') (h : H x = some (.tup xs)) : H' x = some (.tup xs) := c x _ h fun _ => ⟨xs, rfl⟩
theorem Ch.tk (c : Ch o H H') : Tk H H' := fun _ _ h => c.tup h
theorem Eb.tk (e : Eb a H H') : Tk H H' := fun b xs h => (e.1 b fun q => by rw [q] at h; exact e.2 xs h).trans h
theorem Ch.refl : Ch o H H := fun _ _ h _ => h
theorem Ch.same (s : Same H1 H2) (c : Ch o H H1) : Ch o H H2 := fun x u h n => s _ _ (c x u h n)
theorem Ch.eb (e : Eb a H1 H2) (m : a ∈ o) (c : Ch o H H1) : Ch o H H2 := fun x u h n => by
  have h1 := c x u h n
  by_cases q : x = a
  · subst q
    obtain ⟨xs, rfl⟩ := n m
    exact absurd h1 (e.2 xs)
  · exact e.get q h1
theorem Ch.ebn (e : Eb a H1 H2) (m : H a = none) (c : Ch o H H1) : Ch o H H2 := fun x u h n => e.get (fun q => by rw [q, m] at h; cases h) (c x u h n)
theorem Ch.ch (c2 : Ch o2 H1 H2) (m : ∀ x ∈ o2, x ∈ o ∨ H x = none) (c : Ch o H H1) : Ch o H H2 := fun x u h n => c2 x u (c x u h n) fun z => by
  rcases m x z with q | q
  · exact n q
  · rw [h] at q
    cases q
theorem Ch.mono (c : Ch o H H') (m : ∀ x ∈ o, x ∈ o2) : Ch o2 H H' := fun x u h n => c x u h fun z => n (m x z)
theorem Ch.trans (c : Ch o H H1) (c2 : Ch o H1 H2) : Ch o H H2 := c2.ch (fun x hx => .inl hx) c
theorem Ch.seq {K : Frg} (c : Ch o H H') (n : x ∉ o) (h : SqL K H x xs) : SqL K H' x xs := by
  rcases h with (h | ⟨u, h⟩) | h
  · exact .inl (.inl (c.get n h))
  · exact .inl (.inr ⟨u, c.get n h⟩)
  · exact .inr h
theorem Same.get (s : Same H H') (h : H x = some u) : H' x = some u := s _ _ h
theorem nm_nil : x ∉ ([] : List Addr) := by simp
theorem nm_cons (h : x ≠ a) (t : x ∉ o) : x ∉ a :: o := by simp [h, t]
theorem nm_app (h : x ∉ o) (t : x ∉ o2) : x ∉ o ++ o2 := by simp [h, t]
theorem ms_nil {p : Addr → Prop} : ∀ x ∈ ([] : List Addr), p x := by simp
theorem ms_cons {p : Addr → Prop} (h : p a) (t : ∀ x ∈ o, p x) : ∀ x ∈ a :: o, p x := fun x hx => by
  rcases List.mem_cons.mp hx with e | e
  · rw [e]; exact h
  · exact t x e
theorem ms_app {p : Addr → Prop} (h : ∀ x ∈ o, p x) (t : ∀ x ∈ o2, p x) : ∀ x ∈ o ++ o2, p x := fun x hx => by
  rcases List.mem_append.mp hx with e | e
  · exact h x e
  · exact t x e
theorem ne_il {C dx : Addr} {fs : List (Str × V)} {b : Addr} (h1 : H a = some (.ins C dx fs)) (h2 : H b = some (.lst xs)) : a ≠ b := fun e => by
  rw [e, h2] at h1
  cases h1
theorem ne_id {C dx : Addr} {fs : List (Str × V)} {b : Addr} {kvs : List (List Key × V)} (h1 : H a = some (.ins C dx fs)) (h2 : H b = some (.dT kvs)) : a ≠ b := fun e => by
  rw [e, h2] at h1
  cases h1
theorem ne_ld {b : Addr} {kvs : List (List Key × V)} (h1 : H a = some (.lst xs)) (h2 : H b = some (.dT kvs)) : a ≠ b := fun e => by
  rw [e, h2] at h1
  cases h1
/-- what is new to a later heap was new before, or is one's own -/
theorem Ch.fresh (c : Ch o H H') (h : H' x = none) : x ∈ o ∨ H x = none := by
  by_cases m : x ∈ o
  · exact .inl m
  · cases e : H x with
    | none => exact .inr rfl
    | some u =>
      rw [c.get m e] at h
      cases h
end
section
variable {σ : St} {H : Hp} {n b c : St → Hp → Prop} {r : VK} {Q : VK} {K : Frg} {a C dx : Addr} {fs : List (Str × V)} {f : Str} {v : V}
theorem r_fsetE {R : Hp → Prop} {fs' : List (Str × V)} (h : H a = some (.ins C dx fs)) (cl : Cls K C) (na : NoAttr K C f) (hl : fs.length < 1000) (e : putF f v fs = fs') (q : ∀ H', H' a = some (.ins C dx fs') → Eb a H H' → R H') :
    ∃ a' C dx fs, V.ref a = .ref a' ∧ H a' = some (.ins C dx fs) ∧ Cls K C ∧ NoAttr K C f ∧ fs.length < 1000 ∧ R (upd H a' (.ins C dx (putF f v fs))) := r_fset h cl na hl e (q _ upd_same (Eb.upd h fun xs e => by cases e))
theorem r_appE {p : Addr} {xs : List V} {y : V} (h : H p = some (.lst xs)) (hl : xs.length < sizeLine) (q : ∀ H', H' p = some (.lst (xs ++ [y])) → Eb p H H' → Q .non H') : rAppend (.ref p) [y] H Q := r_app h hl (q _ upd_same (Eb.upd h fun xs e => by cases e))
theorem r_popE {p : Addr} {xs : List V} {y : V} (h : H p = some (.lst (xs ++ [y]))) (q : ∀ H', H' p = some (.lst xs) → Eb p H H' → Q y H') : rPop (.ref p) [] H Q := by
  refine ⟨p, _, y, rfl, rfl, h, ?_, ?_⟩
  · rw [List.length_append]
    show (xs ++ [y])[xs.length + 1 - 1]? = some y
    simp
  · exact q _ (by rw [upd_same, List.dropLast_concat]) (Eb.upd h fun xs e => by cases e)
theorem r_orT {ta tb : TE} (h : ta σ H fun x H1 => ∃ k, TruV K x H1 k ∧ if k = true then Q x H1 else tb σ H1 Q) : tOrT K ta tb σ H Q := h
theorem pe_alt {X : Cx} {e : Expr} {t u : TE} (h1 : PE X e t) (h2 : PE X e u) : PE X e (fun σ H Q => t σ H Q ∨ u σ H Q) := by
  refine ⟨fun pins s σ H Q I h => ?_⟩
  rcases h with h | h
  · exact h1.run pins s σ H Q I h
  · exact h2.run pins s σ H Q I h
end
/-! ### new objects by what is known of the heap behind them -/
section
variable {X : Cx} {es : List Expr} {t : TA} {pos : Pos}
theorem pa_mono (ha : PA X es t) : PA X es (fun σ H R => ∃ R0 : List V → Hp → Prop, t σ H R0 ∧ ∀ xs H1, R0 xs H1 → R xs H1) :=
  ⟨fun pos pins s σ H Q I ⟨R0, h, im⟩ => wpAny_mono (ha.run pos pins s σ H R0 I h) (fun us s' ⟨xs, H', I', r, q⟩ => ⟨xs, H', I', r, im _ _ q⟩) fun _ _ x => x⟩
def tLstE (t : TA) : TE := fun σ H Q => t σ H fun xs H1 => xs.length ≤ sizeLine ∧ ∀ p H2, H1 p = none → H2 p = some (.lst xs) → Same H1 H2 → Q (.ref p) H2
def tTupE (t : TA) : TE := fun σ H Q => t σ H fun xs H1 => xs.length ≤ sizeLine ∧ ∀ p H2, H1 p = none → H2 p = some (.tup xs) → Same H1 H2 → Q (.ref p) H2
def tDnwE : TE := fun _ H Q => ∀ p H2, H p = none → H2 p = some (.dT []) → Same H H2 → Q (.ref p) H2
theorem pe_lstE {p : Pos} (ha : PA X es t) : PE X (.List es p) (tLstE t) := ⟨fun pins s σ H Q I h => (pe_lst (pa_mono ha)).run pins s σ H Q I ⟨_, h, fun xs H1 q => ⟨q.1, fun p np => q.2 p _ np upd_same (same_upd np _)⟩⟩⟩
theorem pe_tupE {k : Nat} {p : Pos} (ha : PA X es t) : PE X (.Tuple es k p) (tTupE t) := ⟨fun pins s σ H Q I h => (pe_tup (pa_mono ha)).run pins s σ H Q I ⟨_, h, fun xs H1 q => ⟨q.1, fun p np => q.2 p _ np upd_same (same_upd np _)⟩⟩⟩
theorem pe_dnwE {pos : Pos} : PE X (.Dict [] [] pos) tDnwE := ⟨fun pins s σ H Q I h => pe_dnewT.run pins s σ H Q I fun p np => h p _ np upd_same (same_upd np _)⟩
def rListE (K : Frg) : List V → Hp → VK → Prop := fun xs H Q => ∃ p ys, xs = [.ref p] ∧ (SqL K H p ys ∨ SqT K H p ys) ∧ ∀ l H2, H l = none → H2 l = some (.lst ys) → Same H H2 → Q (.ref l) H2
def rTupleE (K : Frg) : List V → Hp → VK → Prop := fun xs H Q => ∃ p ys, xs = [.ref p] ∧ ((SqL K H p ys ∧ ∀ l H2, H l = none → H2 l = some (.tup ys) → Same H H2 → Q (.ref l) H2) ∨ (SqT K H p ys ∧ Q (.ref p) H))
theorem call_list_ofE : CallR X (.type "list") (rListE X.K) := fun pins s σ H xs us Q I r ⟨p, ys, e, o, q⟩ => call_list_of pins s σ H xs us Q I r ⟨p, ys, e, o, fun l nl => q l _ nl upd_same (same_upd nl _)⟩
theorem call_tuple_ofE : CallR X (.type "tuple") (rTupleE X.K) := fun pins s σ H xs us Q I r ⟨p, ys, e, o⟩ => call_tuple_of pins s σ H xs us Q I r ⟨p, ys, e, o.imp (fun q => ⟨q.1, fun l nl => q.2 l _ nl upd_same (same_upd nl _)⟩) id⟩
end
section
variable {σ : St} {H : Hp} {Q : VK} {K : Frg} {t : TA}
theorem r_lstE (h : t σ H fun xs H1 => xs.length ≤ sizeLine ∧ ∀ p H2, H1 p = none → H2 p = some (.lst xs) → Same H1 H2 → Q (.ref p) H2) : tLstE t σ H Q := h
theorem r_tupE (h : t σ H fun xs H1 => xs.length ≤ sizeLine ∧ ∀ p H2, H1 p = none → H2 p = some (.tup xs) → Same H1 H2 → Q (.ref p) H2) : tTupE t σ H Q := h
theorem r_dnwE (h : ∀ p H2, H p = none → H2 p = some (.dT []) → Same H H2 → Q (.ref p) H2) : tDnwE σ H Q := h
theorem Same.ne {H : Hp} {p x : Addr} {u : HO} (np : H p = none) (h : H x = some u) : x ≠ p := fun e => by rw [e, np] at h; cases h
/-- list(xs) of a list -/
theorem r_toL {p : Addr} {ys : List V} (hs : SqL K H p ys) (q : ∀ l H2, H l = none → H2 l = some (.lst ys) → Same H H2 → Q (.ref l) H2) : rListE K [.ref p] H Q := ⟨p, ys, rfl, .inl hs, q⟩
theorem r_toLt {p : Addr} {ys : List V} (hs : SqT K H p ys) (q : ∀ l H2, H l = none → H2 l = some (.lst ys) → Same H H2 → Q (.ref l) H2) : rListE K [.ref p] H Q := ⟨p, ys, rfl, .inr hs, q⟩
theorem r_toT {p : Addr} {ys : List V} (hs : SqL K H p ys) (q : ∀ l H2, H l = none → H2 l = some (.tup ys) → Same H H2 → Q (.ref l) H2) : rTupleE K [.ref p] H Q := ⟨p, ys, rfl, .inl ⟨hs, q⟩⟩
end
/-- an expression whose value is known, whatever is wished of it -/
theorem r_joinE {σ : St} {H : Hp} {Q : VK} {t : TE} (v : V) (h1 : ∀ R : VK, R v H → t σ H R) (h : Q v H) : t σ H Q := h1 Q h

/-! ### a try whose body raises nothing -/
section
variable {X : Cx} {body : List Stmt} {h₀ : ExceptHandler} {hs : List ExceptHandler} {t : TS} {pos : Pos}
theorem ps_tryN0 (hn : ∀ e s, ¬ X.xe e s) (hb : PSs X body t) : PS X (.Try body (h₀ :: hs) [] [] pos) t := ps_try_never (u := tNext) hn hb pss_nil
end

/-! ### sorted(x, key=lambda y: ..): keys of any kind, new lists too -/
section
open PyProof.Rows PySem.W PySem.Calls
section
variable {prog : Program} {w : World} {A : Around} {E : Value → Shared → Prop} {s : Shared}
/-- a list or a tuple is collected -/
theorem collectQ {T : String} {l : Addr} {us : List Value} {o : Obj} {n : Nat} {Q : List Value → Shared → Prop} (hT : T = "list" ∨ T = "tuple") (ho : s.heap.get? l = some o) (hc : o.cls = .type T) (hd : o.data = .seq us.toArray n) (hz : us.length ≤ sizeLine)
    (q : Q us { s with heap := (s.heap.push (seqObj "list" #[] 0)).update s.heap.objs.size (Obj.mapSeq (· ++ us.toArray)) }) : wpAny (model prog w) A (collect (.ref l)) Q E s := by
  unfold collect
  refine wpAny_bind (wpAny_runValue (codeAny_builtin entry_proto_collect' ?_))
  show wpAny _ _ (do again (.builtin "list.__iadd__" ⟨[← newList [], .ref l], []⟩)) _ _ s
  refine wpAny_bind (wpAny_newList (wpAny_pure ⟨Code.quiet_builtin _ (by decide +kernel), codeAny_builtin entry_list_iadd' ?_⟩))
  show wpAny _ _ (Builtin.List.listExtendWith (.ref s.heap.objs.size) (.ref l) (.ref s.heap.objs.size)) _ _ { s with heap := s.heap.push (seqObj "list" #[] 0) }
  unfold Builtin.List.listExtendWith
  have hp := Heap.get?_push_of_some (seqObj "list" #[] 0) ho
  refine wpAny_bind (wpAny_typeOf (T := T) ⟨o, hp, hc⟩ ?_)
  have two : (Value.type "list" == Value.type "list") = true ∧ (Value.type "tuple" == Value.type "tuple") = true := ⟨rfl, rfl⟩
  rw [if_pos (by rcases hT with rfl | rfl <;> simp [two.1, two.2])]
  refine wpAny_bind (listItems_at hp hd ?_)
  refine wpAny_bind (listItems_at (n := 0) (xs := #[]) (Heap.get?_push_size _ rfl) rfl ?_)
  rw [if_neg (by simp)]
  refine wpAny_bind (listUpdate_at (n := 0) (xs := #[]) (Heap.get?_push_size _ rfl) rfl ?_ (Nat.zero_le _) (by show (#[] ++ us.toArray).size ≤ sizeLine + 1; simp only [Array.size_append, List.size_toArray, List.length_nil]; omega))
  refine wpAny_pure ?_
  show wpAny (model prog w) A (do
      let ob ← load s.heap.objs.size
      match ob.data with
      | .seq zs _ => pure zs.toList
      | _ => unsupported "internal:collect") Q E { s with heap := (s.heap.push (seqObj "list" #[] 0)).update s.heap.objs.size (Obj.mapSeq (· ++ us.toArray)) }
  refine wpAny_bind (wpAny_load (get?_update_seq (Heap.get?_push_size _ rfl) _) ?_)
  show wpAny _ _ (pure ((#[] : Array Value) ++ us.toArray).toList) Q E _
  rw [show ((#[] : Array Value) ++ us.toArray).toList = us by simp]
  exact wpAny_pure q
theorem sortedQ {T : String} {l : Addr} {us : List Value} {o : Obj} {n : Nat} {kw : List (Str × Value)} {Q : Value → Shared → Prop} (hT : T = "list" ∨ T = "tuple") (ho : s.heap.get? l = some o) (hc : o.cls = .type T) (hd : o.data = .seq us.toArray n) (hz : us.length ≤ sizeLine)
    (k1 : argsOk "sorted" ⟨[.ref l], kw⟩) (k2 : ∀ x, argsOk "list.sort" ⟨[.ref x], kw⟩)
    (q : ∀ E' : Value → Shared → Prop, wpAny (model prog w) A.in1.in1 (Builtin.«list.sort» ⟨[.ref (s.heap.objs.size + 1)], kw⟩) (fun f s' => f = .done (.ret .none) ∧ Q (.ref (s.heap.objs.size + 1)) s') E' { s with heap := copyHeap s.heap us }) :
    wpAny (model prog w) A (call (.builtin "sorted") [.ref l] kw) Q E s := by
  refine call_function_entry_kw kind_sorted plain_sorted entry_sorted k1 ?_
  unfold Builtin.«sorted»
  refine wpAny_bind (m := checkCount "sorted" 1 1 _) (wpAny_pure ?_)
  refine wpAny_bind (collectQ hT ho hc hd hz ?_)
  refine wpAny_bind (wpAny_newList ?_ hz)
  have hs2 : ((s.heap.push (seqObj "list" #[] 0)).update s.heap.objs.size (Obj.mapSeq (· ++ us.toArray))).objs.size = s.heap.objs.size + 1 := (Heap.size_update ..).trans (size_push' ..)
  show wpAny _ _ _ _ _ { s with heap := copyHeap s.heap us }
  rw [hs2]
  refine wpAny_bind (wpAny_holding (wpAny_call_entry_kw slot_list_sort ⟨_, copyHeap_at s.heap us, rfl⟩ entry_list_sort ?_ (k2 _)))
  show wpAny (model prog w) A.in1.in1 (Builtin.«list.sort» ⟨[.ref (s.heap.objs.size + 1)], kw⟩) _ _ _
  refine wpAny_mono (q _) (fun f s' hf => ?_) fun _ _ z => z
  obtain ⟨rfl, hq⟩ := hf
  exact ⟨_, rfl, wpAny_pure ⟨_, rfl, hq⟩⟩
end
/-- the heap without the object at k -/
def hole (h : Heap) (k : Addr) : Heap := h.update k fun o => { o with data := .freed }
theorem hole_none (h : Heap) (k : Addr) : (hole h k).get? k = none := by
  obtain ⟨os, l⟩ := h
  unfold hole Heap.get? Heap.update
  show (match (os.modify k fun o => { o with data := .freed })[k]? with | some ⟨_, _, .freed, _⟩ => none | o => o) = none
  rw [Array.getElem?_modify, if_pos rfl]
  cases os[k]? <;> rfl
theorem hole_keep {h : Heap} {k b : Addr} {o : Obj} (e : (hole h k).get? b = some o) : h.get? b = some o ∧ b ≠ k := by
  have nk : b ≠ k := fun z => by
    rw [z, hole_none] at e
    cases e
  exact ⟨((Heap.SameBut.update h k _).2 b nk).symm.trans e, nk⟩
/-- an address that nothing known stands at -/
structure NewA (X : Cx) (pins : List (Addr × Obj)) (H : Hp) (a : Addr) : Prop where
  n : H a = none
  s0 : X.s_0.heap.objs.size ≤ a
  l : a ≠ X.env.locals
  c : ∀ x c, X.env.cells.lookup x = some c → c ≠ a
  f : a ∉ X.fs
  p : ∀ p ∈ X.pn ++ pins, p.1 ≠ a
section
variable {X : Cx} {pins : List (Addr × Obj)} {σ : L2.St} {H : Hp} {s : Shared}
theorem newA_of (I : Inv X pins σ H s) {a : Addr} (h : s.heap.objs.size ≤ a) : NewA X pins H a :=
  ⟨I.hok.fresh h, Nat.le_trans I.sz h, Nat.ne_of_gt (Nat.lt_of_lt_of_le I.lt h), fun x c e z => by
    obtain ⟨v, o, ho, _⟩ := I.cell x c e
    exact absurd (Nat.lt_of_lt_of_le (Heap.lt_size ho) h) (by rw [z]; exact Nat.lt_irrefl _), I.nofs h, fun p hp z => by
    have e := (I.pin p hp).1
    exact absurd (Nat.lt_of_lt_of_le (Heap.lt_size e) h) (by rw [z]; exact Nat.lt_irrefl _)⟩
/-- such an object is written -/
theorem Inv.scr {k : Addr} {h' : Heap} {t' : Nat} (I : Inv X pins σ H s) (N : NewA X pins H k) (sb : ∀ b o, b ≠ k → s.heap.get? b = some o → h'.get? b = some o) (th : ∀ o, s.heap.get? k = some o → ∃ o', h'.get? k = some o') : Inv X pins σ H { s with heap := h', toks := t' } := by
  have nk : ∀ b u, H b = some u → b ≠ k := fun b u e z => by
    rw [z, N.n] at e
    cases e
  refine I.step (g' := s.gens) (d' := s.drawn) (ch := [k]) (fun b hb => ?_) (fun b o _ _ nb e n => sb b o (by simpa using nb) e) (fun b o _ _ nb e n => ⟨o.slots, sb b o (by simpa using nb) e⟩)
    (fun b o _ _ n => n) (fun b o nb e => ⟨o, sb b o (by simpa using nb) e⟩) (fun b xs e => e) (fun b o u e => e) (fun b qs e => ⟨#[], by rw [e]; simp⟩) (fun m hn => ?_) (fun b u e => ?_) I.bare
  · rw [List.mem_singleton.mp hb]
    exact ⟨.inr N.s0, N.l, N.c, N.p⟩
  · obtain ⟨ob, es, ep, ho, r⟩ := hn
    exact ⟨ob, es, ep, sb _ ob (Ne.symm N.l) ho, r⟩
  · refine (I.hok b u e).stay (fun d v hd q => sb d v ?_ q) (fun d q => q) fun d xs q => q
    rcases hd with z | z
    · rw [z]
      exact nk b u e
    · exact nk _ _ z
theorem Inv.scr2 {k a : Addr} {o : HO} {h' : Heap} {t' : Nat} (I : Inv X pins σ H s) (NK : NewA X pins H k) (N : NewA X pins H a) (sb : ∀ b o, b ≠ k → b ≠ a → s.heap.get? b = some o → h'.get? b = some o) (new : ObjOk X.prog X.w (upd H a o) h' a o) :
    Inv X pins σ (upd H a o) { s with heap := h', toks := t' } := by
  have nk : ∀ b u, H b = some u → b ≠ k := fun b u e z => by
    rw [z, NK.n] at e
    cases e
  have na : ∀ b u, H b = some u → b ≠ a := fun b u e z => by
    rw [z, N.n] at e
    cases e
  have two : ∀ {b : Addr}, b ∉ [k, a] → b ≠ k ∧ b ≠ a := fun h => by simpa using h
  refine I.step (g' := s.gens) (d' := s.drawn) (ch := [k, a]) (fun b hb => ?_) (fun b o _ _ nb e n => sb b o (two nb).1 (two nb).2 e) (fun b o _ _ nb e n => ⟨o.slots, sb b o (two nb).1 (two nb).2 e⟩)
    (fun b o nb _ n => (upd_ne (two nb).2).trans n) (fun b o nb e => ⟨o, sb b o (two nb).1 (two nb).2 e⟩) (fun b xs e => (upd_ne (na _ _ e)).trans e) (fun b o u e => (upd_ne (na _ _ e)).trans e) (fun b qs e => ⟨#[], by rw [upd_ne (na _ _ e), e]; simp⟩) (fun m hn => ?_) (fun b u e => ?_) I.bare
  · simp only [List.mem_cons, List.not_mem_nil, or_false] at hb
    rcases hb with rfl | rfl
    · exact ⟨.inr NK.s0, NK.l, NK.c, NK.p⟩
    · exact ⟨.inr N.s0, N.l, N.c, N.p⟩
  · obtain ⟨ob, es, ep, ho, r⟩ := hn
    exact ⟨ob, es, ep, sb _ ob (Ne.symm NK.l) (Ne.symm N.l) ho, r⟩
  · by_cases hb : b = a
    · rw [hb, upd_same] at e
      cases e
      rw [hb]
      exact new
    · rw [upd_ne hb] at e
      refine (I.hok b u e).stay (fun d v hd q => sb d v ?_ ?_ q) (fun d q => (upd_ne (na _ _ q)).trans q) fun d xs q => (upd_ne (na _ _ q)).trans q
      · rcases hd with z | z
        · rw [z]
          exact nk b u e
        · exact nk _ _ z
      · rcases hd with z | z
        · rw [z]
          exact hb
        · exact na _ _ z
end
theorem same_lst {K : Frg} {H H' : Hp} {a : Addr} {xs : List V} (m : Same H H') (h : SqL K H a xs) : SqL K H' a xs := by
  rcases h with (h | ⟨u, h⟩) | h
  · exact .inl (.inl (m _ _ h))
  · exact .inl (.inr ⟨u, m _ _ h⟩)
  · exact .inr h
mutual
theorem Dp.mono {K : Frg} {H H' : Hp} (m : Same H H') : ∀ {v : V} {d : PyData}, Dp K H v d → Dp K H' v d
  | _, _, .non => .non
  | _, _, .bl b => .bl b
  | _, _, .int i => .int i
  | _, _, .str x => .str x
  | _, _, .lst h t => .lst (same_lst m h) (DpAll.mono m t)
  | _, _, .tup h t => .tup (same_tup m h) (DpAll.mono m t)
theorem DpAll.mono {K : Frg} {H H' : Hp} (m : Same H H') : ∀ {vs : List V} {ds : List PyData}, DpAll K H vs ds → DpAll K H' vs ds
  | _, _, .nil => .nil
  | _, _, .cons h t => .cons (Dp.mono m h) (DpAll.mono m t)
end
def KeyR (X : Cx) (H : Hp) (u : Value) (d : PyData) : Prop := ∃ x, RelV x u ∧ Dp X.K H x d
/-- the pin of the list that is being sorted -/
def pinA (a : Addr) (e : Nat) : Addr × Obj := (a, seqObj "list" #[] e)
section
variable {X : Cx} {pins : List (Addr × Obj)} {σ : L2.St} {H : Hp} {s : Shared}
theorem NewA.pin {a : Addr} {o : Obj} {k : Addr} (N : NewA X pins H k) (h : a ≠ k) : NewA X ((a, o) :: pins) H k :=
  ⟨N.n, N.s0, N.l, N.c, N.f, fun p hp => by
    rcases List.mem_append.mp hp with z | z
    · exact N.p p (List.mem_append_left _ z)
    · rcases List.mem_cons.mp z with z | z
      · rw [z]
        exact h
      · exact N.p p (List.mem_append_right _ z)⟩
theorem NewA.to {H' : Hp} {k : Addr} (N : NewA X pins H k) (h : H' k = none) : NewA X pins H' k := ⟨h, N.s0, N.l, N.c, N.f, N.p⟩
theorem Inv.pinN {k : Addr} {o : Obj} (I : Inv X pins σ H s) (N : NewA X pins H k) (e : s.heap.get? k = some o) (nc : ∀ v, o.data ≠ .cell v) : Inv X ((k, o) :: pins) σ H s :=
  I.pins_of fun p hp => by
    rcases List.mem_cons.mp hp with z | z
    · rw [z]
      exact ⟨e, N.n, N.l, N.f, nc⟩
    · exact I.pin p (List.mem_append_right _ z)
theorem Inv.unpin {k : Addr × Obj} (I : Inv X (k :: pins) σ H s) : Inv X pins σ H s := I.pins_of fun p hp => I.pin p (List.mem_append_right _ (List.mem_cons_of_mem _ hp))
theorem Inv.pinned1 {k : Addr} {o : Obj} (I : Inv X ((k, o) :: pins) σ H s) : s.heap.get? k = some o ∧ H k = none := by
  have q := I.pin (k, o) (List.mem_append_right _ (List.mem_cons_self ..))
  exact ⟨q.1, q.2.1⟩
theorem NewA.same {k : Addr} {o : Obj} (N : NewA X ((k, o) :: pins) H k) : False := N.p (k, o) (List.mem_append_right _ (List.mem_cons_self ..)) rfl
/-- the keys are made, one by one -/
theorem keys_run {A : Around} {f : Value} {a kS : Addr} {us : List Value} {e1 : Nat} {b : Bool} {kz : List PyData} {Pf : PySem.Fin → Shared → Prop} {E' : Value → Shared → Prop} (I : Inv X (pinA a e1 :: pins) σ H s) (NK : NewA X (pinA a e1 :: pins) H kS)
    (nk : s.heap.get? kS = some (seqObj "list" #[] 0)) (hl : kz.length = us.length) (hz : us.length ≤ sizeLine)
    (turn : ∀ (i : Nat) (u : Value) (d : PyData), us[i]? = some u → kz[i]? = some d → ∀ (pins' : List (Addr × Obj)) (H' : Hp) (s' : Shared), (∀ p ∈ pins, p ∈ pins') → Inv X pins' σ H' s' → Same H H' → wpAny (model X.prog X.w) A (call f [u]) (EP X pins' σ fun x H'' => Same H' H'' ∧ Dp X.K H'' x d) (fun _ _ => False) s')
    (done : ∀ (H' : Hp) (s' : Shared) (kA : Array Value) (e : Nat), Inv X (pinA a e1 :: pins) σ H' s' → Same H H' → NewA X (pinA a e1 :: pins) H' kS → s'.heap.get? kS = some (seqObj "list" kA e) → EachIs (KeyR X H') kA.toList kz → wpAny (model X.prog X.w) A (ksk_end a b us.toArray e1 (.ref kS) kA) Pf E' s') :
    wpAny (model X.prog X.w) A (ksk_rest a f b us.toArray e1 (.ref kS)) Pf E' s := by
  unfold ksk_rest
  refine wpAny_bind (wpAny_rule ?_)
  first
    | rw [List.forIn_toArray]
    | (rw [← Array.forIn_toList]; simp only [List.toList_toArray])
  refine wpAny_bind (ksk_fold (fun i s' => ∃ (H' : Hp) (kA : Array Value) (e : Nat), Inv X (pinA a e1 :: pins) σ H' s' ∧ Same H H' ∧ NewA X (pinA a e1 :: pins) H' kS ∧ s'.heap.get? kS = some (seqObj "list" kA e) ∧ EachIs (KeyR X H') kA.toList (kz.take i)) us 0 s
    ⟨H, #[], 0, I, fun _ _ q => q, NK, nk, by rw [List.take_zero]; exact EachIs.nil⟩ (fun j u s' hu hh => ?_) (fun s' hh => ?_))
  · obtain ⟨H', kA, e, I', sm, NK', nk', ek⟩ := hh
    rw [Nat.zero_add] at ek ⊢
    have hj : j < us.length := (List.getElem?_eq_some_iff.mp hu).1
    obtain ⟨d, hd⟩ : ∃ d, kz[j]? = some d := ⟨_, List.getElem?_eq_getElem (by omega)⟩
    have kl : kA.size ≤ us.length := by
      have := ek.length
      rw [Array.length_toList, List.length_take] at this
      omega
    refine wpAny_bind (wpAny_attempt (wpAny_mono (turn j u d hu hd ((kS, seqObj "list" kA e) :: pinA a e1 :: pins) H' s' (fun p hp => by simp [hp]) (Inv.pinN I' NK' nk' (fun v z => by cases z)) sm) (fun v s'' he => ?_) fun _ _ z => z.elim))
    obtain ⟨x, H'', I'', rx, sm2, dx⟩ := he
    obtain ⟨nk2, hk2⟩ := Inv.pinned1 I''
    have I3 := Inv.unpin I''
    have N3 : NewA X (pinA a e1 :: pins) H'' kS := NK'.to hk2
    have sb := Heap.SameBut.update s''.heap kS (Obj.mapSeq (·.push v))
    obtain ⟨c2, hc2⟩ : ∃ c2, (s''.heap.update kS (Obj.mapSeq (·.push v))).get? kS = some (seqObj "list" (kA.push v) c2) := ⟨_, get?_update_seq nk2 (·.push v)⟩
    refine wpAny_bind (listUpdate_at nk2 rfl ?_ (Nat.le_trans kl hz) (Nat.le_trans (Nat.le_of_eq (Array.size_push ..)) (Nat.succ_le_succ (Nat.le_trans kl hz))))
    refine wpAny_pure ⟨rfl, H'', kA.push v, c2, Inv.scr (t' := s''.toks) I3 N3 (fun b o nb q => (sb.2 b nb).trans q) (fun _ _ => ⟨_, hc2⟩), fun x u q => sm2 _ _ (sm _ _ q), N3, hc2, ?_⟩
    rw [Array.toList_push, List.take_succ, hd]
    exact each_snoc (R := KeyR X H'') ⟨x, rx, dx⟩ (ek.mono fun u d q => by
      obtain ⟨x, r, dd⟩ := q
      exact ⟨x, r, Dp.mono sm2 dd⟩)
  · obtain ⟨H', kA, e, I', sm, NK', nk', ek⟩ := hh
    rw [Nat.zero_add, List.take_of_length_le (by omega)] at ek
    refine wpAny_bind (listItems_at nk' rfl ?_)
    exact done H' s' kA e I' sm NK' nk' ek
end
/-- items beside their keys -/
abbrev KeyB : Type := V × PyData
theorem zip_each : ∀ {xs : List V} {us : List Value} {kz : List PyData}, Vals xs us → kz.length = xs.length → EachIs (fun u (b : KeyB) => RelV b.1 u) us (xs.zip kz)
  | _, _, [], .nil, _ => .nil
  | _, _, _ :: _, .nil, h => by cases h
  | _, _, [], .cons _ _, h => by cases h
  | _, _, k :: kz, .cons r t, h => .cons r (zip_each t (by simpa using h))
theorem each_val1 : ∀ {us : List Value} {bs : List KeyB}, EachIs (fun u (b : KeyB) => RelV b.1 u) us bs → Vals (bs.map (·.1)) us
  | _, _, .nil => .nil
  | _, _, .cons r t => .cons r (each_val1 t)
/-- the items in the order of their keys -/
def srtK (xs : List V) (kz : List PyData) : List V := ((xs.zip kz).mergeSort (dataLe false fun b : KeyB => b.2)).map (·.1)
section
variable {X : Cx} {pins : List (Addr × Obj)} {σ : L2.St} {H : Hp} {s : Shared}
theorem sorted_key {T : String} {l f : Addr} {xs : List V} {us : List Value} {o : Obj} {n : Nat} {kz : List PyData} {Q : VK} {E' : Value → Shared → Prop} (hu : X.A.units + 64 < cLine) (I : Inv X pins σ H s) (hT : T = "list" ∨ T = "tuple") (ho : s.heap.get? l = some o) (hc : o.cls = .type T) (hd : o.data = .seq us.toArray n) (hz : us.length ≤ sizeLine)
    (rv : Vals xs us) (hl : kz.length = xs.length) (hal : AllAlike kz) (hk : Sortable kz) (hdp : ∀ d ∈ kz, d.depth ≤ 40)
    (turn : ∀ (i : Nat) (u : Value) (d : PyData), us[i]? = some u → kz[i]? = some d → ∀ (pins' : List (Addr × Obj)) (H' : Hp) (s' : Shared), (∀ p ∈ pins, p ∈ pins') → Inv X pins' σ H' s' → Same H H' → wpAny (model X.prog X.w) X.A.in1.in1 (call (.ref f) [u]) (EP X pins' σ fun x H'' => Same H' H'' ∧ Dp X.K H'' x d) (fun _ _ => False) s')
    (q : ∀ (p : Addr) (H' : Hp), Same H H' → H' p = none → Q (.ref p) (upd H' p (.lst (srtK xs kz)))) :
    wpAny (model X.prog X.w) X.A (call (.builtin "sorted") [.ref l] [(Str.ofString "key", .ref f)]) (EP X pins σ Q) E' s := by
  have lx := rv.length
  refine sortedQ hT ho hc hd hz (ksk_s1 _ _) (fun _ => ksk_l1 _ _) fun E2 => ?_
  rw [ksk_t1]
  have hoA := copyHeap_at s.heap us
  have kp0 : ∀ b o, s.heap.get? b = some o → (copyHeap s.heap us).get? b = some o := fun b o => copyHeap_old
  have szA : s.heap.objs.size ≤ s.heap.objs.size + 1 := Nat.le_succ _
  have NA := newA_of I szA
  have ltA : s.heap.objs.size + 1 < (copyHeap s.heap us).objs.size := Heap.lt_size hoA
  generalize s.heap.objs.size + 1 = a at hoA szA NA ltA ⊢
  generalize copyHeap s.heap us = h0 at hoA kp0 ltA ⊢
  obtain ⟨e1, ho1⟩ : ∃ e1, (h0.update a (Obj.mapSeq fun _ => (#[] : Array Value))).get? a = some (seqObj "list" #[] e1) := ⟨_, get?_update_seq hoA fun _ => #[]⟩
  have sb := Heap.SameBut.update h0 a (Obj.mapSeq fun _ => (#[] : Array Value))
  have sz1 : (h0.update a (Obj.mapSeq fun _ => (#[] : Array Value))).objs.size = h0.objs.size := Heap.size_update ..
  unfold ksk_tree
  refine wpAny_bind (listItems_at hoA rfl ?_)
  refine wpAny_bind (listUpdate_at hoA rfl ?_ (by rw [List.size_toArray]; exact hz) (Nat.zero_le _))
  refine wpAny_bind (seqEpoch_at ho1 rfl ?_)
  refine wpAny_bind (wpAny_newTuple ?_ (by show us.length ≤ _; exact hz))
  refine wpAny_bind (wpAny_newList ?_ (Nat.zero_le _))
  refine wpAny_holding ?_
  generalize h0.update a (Obj.mapSeq fun _ => (#[] : Array Value)) = h1 at ho1 sb sz1 ⊢
  have ho2 : (h1.push (seqObj "tuple" us.toArray 0)).get? a = some (seqObj "list" #[] e1) := Heap.get?_push_of_some _ ho1
  have kp2 : ∀ b o, s.heap.get? b = some o → (h1.push (seqObj "tuple" us.toArray 0)).get? b = some o := fun b o e => Heap.get?_push_of_some _ ((sb.2 b (fun z => absurd (Heap.lt_size e) (by rw [z]; exact Nat.not_lt.mpr szA))).trans (kp0 b o e))
  have sz2 : (h1.push (seqObj "tuple" us.toArray 0)).objs.size = h1.objs.size + 1 := size_push' ..
  have ha2 : a < (h1.push (seqObj "tuple" us.toArray 0)).objs.size := Heap.lt_size ho2
  have hs2 : s.heap.objs.size ≤ (h1.push (seqObj "tuple" us.toArray 0)).objs.size := Nat.le_of_lt (Nat.lt_of_le_of_lt szA ha2)
  show wpAny _ _ (ksk_rest a (.ref f) false us.toArray e1 (.ref (h1.push (seqObj "tuple" us.toArray 0)).objs.size)) _ _ { s with heap := (h1.push (seqObj "tuple" us.toArray 0)).push (seqObj "list" #[] 0) }
  generalize h1.push (seqObj "tuple" us.toArray 0) = h2 at ho2 kp2 ha2 hs2 ⊢
  have I1 : Inv X pins σ H { s with heap := h2.push (seqObj "list" #[] 0) } := I.kept (t' := s.toks) fun b o e => Heap.get?_push_of_some _ (kp2 b o e)
  have I2 := Inv.pinN I1 NA (Heap.get?_push_of_some _ ho2) (fun v z => by cases z)
  have NK : NewA X (pinA a e1 :: pins) H h2.objs.size := (newA_of I hs2).pin (Nat.ne_of_lt ha2)
  refine keys_run I2 NK (Heap.get?_push_size _ rfl) (hl.trans lx) hz turn fun H' s' kA e I' sm NK' nk' ek => ?_
  obtain ⟨na', hna⟩ := Inv.pinned1 I'
  have er : EachIs (fun v d => ∃ as, Reads s'.heap v d as) kA.toList kz := ek.mono fun u d q => by
    obtain ⟨x, r, dd⟩ := q
    exact Dp.reads I' d x u dd r
  have hsz : kA.size = us.length := by
    have := ek.length
    rw [Array.length_toList] at this
    omega
  have hh : ∀ b o, b ≠ h2.objs.size → ((hole s'.heap h2.objs.size).get? b = some o ↔ s'.heap.get? b = some o) := fun b o nb => by
    unfold hole
    rw [(Heap.SameBut.update s'.heap h2.objs.size _).2 b nb]
  refine keyH_end (κ := dataKind s'.heap kz) (h₁ := hole s'.heap h2.objs.size) (fun b o _ e => (hole_keep e).1) (hole_none _ _) nk' na' (Nat.ne_of_gt ha2) (SortsAt.data er hal hk fun d hd2 => ?_) hsz hz fun h' tk c kp hD => ⟨rfl, ?_⟩
  · have := hdp d hd2
    show X.A.units + 1 + 1 + d.depth < cLine
    omega
  · have ko : KeyedOut false kz us (sortVals (dataKind s'.heap kz) false kA.toList us) := ⟨s'.heap, kA.toList, hal, rfl, er⟩
    have ez : (xs.zip kz).map (fun b : KeyB => b.2) = kz := by
      rw [List.map_snd_zip]
      omega
    have ro := keyedOut_each (bs := xs.zip kz) (R := fun u (b : KeyB) => RelV b.1 u) (fun b : KeyB => b.2) (by rw [ez]; exact ko) (zip_each rv hl)
    have vo := each_val1 ro
    have ll : (srtK xs kz).length ≤ sizeLine := by
      unfold srtK
      rw [List.length_map, List.length_mergeSort, List.length_zip]
      omega
    refine ⟨.ref a, upd H' a (.lst (srtK xs kz)), ?_, rfl, q a H' sm hna⟩
    refine Inv.scr2 (t' := tk) (Inv.unpin I') ⟨NK'.n, NK'.s0, NK'.l, NK'.c, NK'.f, fun p hp => ?_⟩ (NA.to hna) (fun b o nk na e => kp b o na ((hh b o nk).mpr e)) ⟨ll, _, c, vo, hD⟩
    rcases List.mem_append.mp hp with z | z
    · exact NK'.p p (List.mem_append_left _ z)
    · exact NK'.p p (List.mem_append_right _ (List.mem_cons_of_mem _ z))
end
end

/-! ### the lambda that gives the keys -/
section
open PyProof.Rows PySem.W PySem.Calls LamX
theorem clo_none {cells : List (Str × Addr)} : ∀ {ns : List (Str × NameKind)} {acc : List (Str × Addr)}, (∀ y ∈ ns, y.2 ≠ .free) → cloFrom cells ns acc = acc
  | [], _, _ => rfl
  | (n, k) :: r, acc, h => by
    have hk : (k == NameKind.free) = false := by
      have := h (n, k) (List.mem_cons_self ..)
      cases k <;> first | rfl | exact absurd rfl this
    unfold cloFrom
    rw [hk]
    exact clo_none fun y hy => h y (List.mem_cons_of_mem _ hy)
/-- the lambda's own object -/
def lamO (q : Str) (params : Arguments) (body : Expr) (scope : Scope) (c' : Addr) (pm ctv : Value) : Obj := kla_obj "<lambda>" q params body scope [] pm c' ctv
theorem lam1_run {CX : CXT} {P : Program} {w : World} {K : Frg} {mg : Str → Option Value} {base : Heap} {N : List Str} {p q : Str} {k : Nat} {f c' : Addr} {params : Arguments} {body : Expr} {scope : Scope} {pm ctv : Value} {A : Around} {outer : List Env} {s : Shared} {H : Hp} {u : Value} {v : V} {Q : VK} {E : XK} {tb : TE}
    (S : FnScope N [p] scope) (of : s.heap.get? f = some (lamO q params body scope c' pm ctv)) (hco : H c' = some (CodeO c' q)) (hr : Room (k + 1) A) (e0 : Env0 P w K mg base A outer s H)
    (hb : bindArgs (kla_fn "<lambda>" q params body scope [] pm (.ref c') ctv) ⟨[u], []⟩ = pure [(p, u)]) (r : RelV v u)
    (hbody : Room k (A.deeper (envOfC q scope s.heap.objs.size f (.ref c'))) → PE (cxOf CX P w K mg base N q scope f (.ref c') A outer s H E) body tb) (h : tb (L2.start N [v]) H Q) :
    codeAny (model P w) A (.call (.ref f) ⟨[u], []⟩) (CR CX outer P w H s Q E) s := by
  have lim : s.heap.NoLimit := e0.mod.nolimit.keeps fun b o e => (e0.bs b o e).1
  obtain ⟨⟨oc, vs, t, hoc, hdc, hvc⟩, _, _⟩ := e0.hok c' _ hco
  refine kla_callFunE hr.depth of rfl S.co S.gen rfl ⟨c', oc, vs, t, rfl, hoc, hdc, hvc⟩ ?_
  show wpAny (model P w) A.in1 (bindArgs (kla_fn "<lambda>" q params body scope [] pm (.ref c') ctv) ⟨[u], []⟩) _ _ _
  rw [hb]
  refine wpAny_pure (wpAny_newFunctionEnv_cells S.kind (fun y hy => ?_) fun env he s1 x => ?_)
  · rw [List.mem_singleton.mp hy]
    rcases S.par p (List.mem_singleton.mpr rfl) with z | z
    · exact .inl z
    · exact .inr ⟨z, cellsFrom_some _ _ _ (.inl z)⟩
  subst he
  refine ⟨lim.keeps x.toInCall.keep, ?_⟩
  show codeAny _ _ (.expr body (envOfC q scope s.heap.objs.size f (.ref c'))) _ _
  have I : Inv (cxOf CX P w K mg base N q scope f (.ref c') A outer s H E) [] (L2.start N [v]) H s1 := inv_start (ps := [p]) (us := [u]) S hr.hd e0 rfl (.cons r .nil) x
  refine kla_codeExpr (wpAny_mono ((hbody (hr.deeper _)).run [] s1 _ H Q I h) (fun u' s' hq => ?_) fun e s' hq => hq)
  obtain ⟨v', H', J, rv, q⟩ := hq
  exact ⟨v', H', J.os, J.bare, J.base, J.hok, rv, q⟩
def tSortK (K : Frg) (T : List (Addr × Str)) (N : List Str) (to tb : TE) : TE := fun σ H Q => to σ H fun x H1 => Tabs T H1 ∧ ∃ (l : Addr) (xs : List V) (kz : List PyData), x = .ref l ∧ (SqL K H1 l xs ∨ SqT K H1 l xs) ∧ kz.length = xs.length ∧ AllAlike kz ∧ Sortable kz ∧ (∀ d ∈ kz, d.depth ≤ 40) ∧
  ∀ H2, ExtN H1 H2 → Tabs T H2 → (∀ (i : Nat) (y : V) (d : PyData), xs[i]? = some y → kz[i]? = some d → ∀ H3, Same H2 H3 → tb (L2.start N [y]) H3 fun v H4 => Same H3 H4 ∧ Dp K H4 v d) ∧
    ∀ (p : Addr) (H3 : Hp), Same H2 H3 → H3 p = none → Q (.ref p) (upd H3 p (.lst (srtK xs kz)))
theorem ext_lst {K : Frg} {H H' : Hp} {a : Addr} {xs : List V} (e : ExtN H H') (h : SqL K H a xs) : SqL K H' a xs := by
  rcases h with (h | ⟨u, h⟩) | h
  · exact .inl (.inl (e _ _ h fun ps z => by cases z))
  · exact .inl (.inr ⟨u, e _ _ h fun ps z => by cases z⟩)
  · exact .inr h
theorem ext_tup {K : Frg} {H H' : Hp} {a : Addr} {xs : List V} (e : ExtN H H') (h : SqT K H a xs) : SqT K H' a xs := by
  rcases h with (h | ⟨u, h⟩) | h
  · exact .inl (.inl (e _ _ h fun ps z => by cases z))
  · exact .inl (.inr ⟨u, e _ _ h fun ps z => by cases z⟩)
  · exact .inr h
section
variable {X : Cx} {pins : List (Addr × Obj)} {σ : L2.St} {H : Hp} {s : Shared}
theorem vals_at : ∀ {xs : List V} {us : List Value} {i : Nat} {u : Value}, Vals xs us → us[i]? = some u → ∃ x, xs[i]? = some x ∧ RelV x u
  | _, _, 0, _, .cons r _, h => by
    cases (show some _ = some _ from h)
    exact ⟨_, rfl, r⟩
  | _, _, i + 1, _, .cons _ t, h => vals_at (i := i) t (by simpa using h)
theorem pe_sortlam {T : List (Addr × Str)} {c P : Addr} {N : List Str} {p : Str} {k : Nat} {e : Expr} {params : Arguments} {body : Expr} {scope : Scope} {to tb : TE} {pn lpos kpos pos : Pos} (ha : PA X [e] (tCons to tNil))
    (hg : Gl X ("sorted" : Str)) (hm : X.mg ("sorted" : Str) = none) (hv : bootBuiltins ("sorted" : Str) = some (.builtin "sorted")) (TB : TabB X.base X.mg c P) (hcode : X.env.code = .ref c) (hmT : (P, X.env.qual ++ "<lambda>") ∈ T) (hu : ∀ p ∈ T, p.1 = P → p.2 = X.env.qual ++ "<lambda>")
    (hr : Room (k + 3) X.A) (S : FnScope N [p] scope) (hdef : defaultsOf params X.env = ([], [])) (hbind : ∀ (q : Str) (pm cv ctv : Value) (u : Value), bindArgs (kla_fn "<lambda>" q params body scope [] pm cv ctv) ⟨[u], []⟩ = pure [(p, u)])
    (hbody : ∀ (A : Around) (outer : List Env) (s : Shared) (H : Hp) (f c' : Addr), Room k (A.deeper (envOfC (X.env.qual ++ "<lambda>") scope s.heap.objs.size f (.ref c'))) → PE (cxOf C8.CX0 X.prog X.w X.K X.mg X.base N (X.env.qual ++ "<lambda>") scope f (.ref c') A outer s H C8.E0) body tb)
    (hn : ("sorted" : Str) ≠ "__name__" := by decide) (hdb : (("sorted" : Str) == ("__debug__" : Str)) = false := by decide)
    (he : backTo pos (starEach [e] X.env) = (false, eval e X.env) :: backTo pos (starEach [] X.env) := by rfl) (hpl : (backTo pos (starEach [e] X.env)).any (·.1) = false := by rfl) :
    PE X (.Call (.Name "sorted" pn) [e] [⟨some "key", .Lambda params body scope lpos, kpos⟩] pos) (tSortK X.K T N to tb) := by
  refine ⟨fun pins s σ H Q I h => ?_⟩
  refine wpAny_Call_Name_kw (ld_blt I hg hm hv ?_ hn hdb)
  let R : V → Hp → Prop := fun x H1 => Tabs T H1 ∧ ∃ (l : Addr) (xs : List V) (kz : List PyData), x = .ref l ∧ (SqL X.K H1 l xs ∨ SqT X.K H1 l xs) ∧ kz.length = xs.length ∧ AllAlike kz ∧ Sortable kz ∧ (∀ d ∈ kz, d.depth ≤ 40) ∧
    ∀ H2, ExtN H1 H2 → Tabs T H2 → (∀ (i : Nat) (y : V) (d : PyData), xs[i]? = some y → kz[i]? = some d → ∀ H3, Same H2 H3 → tb (L2.start N [y]) H3 fun v H4 => Same H3 H4 ∧ Dp X.K H4 v d) ∧
      ∀ (p : Addr) (H3 : Hp), Same H2 H3 → H3 p = none → Q (.ref p) (upd H3 p (.lst (srtK xs kz)))
  refine PyProof.Rows.callWith_kw (thn (ha.run pos pins s σ H (fun vs H1 => match vs with | [x] => R x H1 | _ => False) I h) fun us s1 ⟨vs, H1, I1, r1, q1⟩ => kws_cons ?_) he hpl rfl rfl
  match vs, q1 with
  | [], q1 => exact (show False from q1).elim
  | _ :: _ :: _, q1 => exact (show False from q1).elim
  | [x], q1 =>
    obtain ⟨T1, l, xs, kz, rfl, hs, hl, hal, hk, hdp, q⟩ := (show R x H1 from q1)
    obtain ⟨u0, rfl, rx⟩ := vals1 r1
    obtain rfl : u0 = Value.ref l := rx
    have nofree : ∀ y ∈ scope.names, y.2 = .free → ∃ c, X.env.cells.lookup y.1 = some c := fun y hy e => absurd e (S.nofree y hy)
    refine lam_make2 I1 TB hcode hmT hu T1 hdef nofree fun f c' pm ctv H2 s2 I2 eN T2 hf hfn hfr hco => ?_
    rw [clo_none S.nofree] at hf
    refine kws_nil ?_
    show wpAny (model X.prog X.w) X.A (call (.builtin "sorted") [.ref l] [(Str.ofString "key", .ref f)]) (EP X pins σ Q) X.xe s2
    obtain ⟨q1, q2⟩ := q H2 eN T2
    have hsub : ∀ b ∈ X.fs, b ∈ frs X.stack := fun b hb => by
      rcases I2.ok.stk with e | ⟨e, hf⟩
      · rw [e]
        exact hb
      · rw [e]
        unfold frs
        rw [List.filterMap_cons, hf]
        exact List.mem_cons_of_mem _ hb
    have I3 : Inv X ((f, lamO (X.env.qual ++ "<lambda>") params body scope c' pm ctv) :: pins) σ H2 s2 := I2.pins_of fun p hp => by
      rcases List.mem_cons.mp hp with z | z
      · rw [z]
        refine ⟨hf, hfn, fun e => ?_, fun hb => hfr (hsub _ hb), fun v z => by cases z⟩
        obtain ⟨m, ⟨o', es, ep, ho', hd', _⟩, _⟩ := I2.loc
        have e : f = X.env.locals := e
        rw [← e, hf] at ho'
        cases ho'
        cases hd'
      · exact I2.pin p (List.mem_append_right _ z)
    have go : ∀ {Ty : String} {us : List Value} {o : Obj} {n : Nat}, (Ty = "list" ∨ Ty = "tuple") → s2.heap.get? l = some o → o.cls = .type Ty → o.data = .seq us.toArray n → us.length ≤ sizeLine → Vals xs us → wpAny (model X.prog X.w) X.A (call (.builtin "sorted") [.ref l] [(Str.ofString "key", .ref f)]) (EP X pins σ Q) X.xe s2 := fun {Ty us o n} hT ho hc hd hz rv => by
      refine wpAny_mono (sorted_key (Q := Q) (by have := hr.un; omega) I3 hT ho hc hd hz rv hl hal hk hdp (fun i u d hu hd2 pins' H' s' hp I' sm => ?_) q2) (fun v s' hq => ?_) fun _ _ z => z
      · obtain ⟨y, hy, ry⟩ := vals_at rv hu
        have of := (I'.pin _ (List.mem_append_right _ (hp _ (List.mem_cons_self ..)))).1
        have rc := lam1_run (CX := C8.CX0) (E := C8.E0) (k := k) (A := X.A.in1.in1) (outer := X.stack) (Q := fun x H'' => Same H' H'' ∧ Dp X.K H'' x d) S of (sm _ _ hco) hr.in1.in1 I'.env0.in1.in1 (hbind _ _ _ _ u) ry (hbody _ _ _ _ _ _) (q1 i y d hy hd2 H' sm)
        refine wpAny_call (codeAny_mono rc fun r s3 hq => ?_)
        cases r with
        | error e => exact (show False from hq).elim
        | ok fl =>
          cases fl with
          | ret u => exact I'.after hq
          | next => exact False.elim hq
          | brk => exact False.elim hq
          | cont => exact False.elim hq
      · obtain ⟨w', H', J, rr, qq⟩ := hq
        exact ⟨w', H', Inv.unpin J, rr, qq⟩
    rcases hs with hs | hs
    · obtain ⟨its, rv, ⟨o, n, ho, hc, _, hd⟩, hz⟩ := I2.list (ext_lst eN hs)
      exact go (.inl rfl) ho hc hd (by rw [← rv.length]; exact hz) rv
    · obtain ⟨its, rv, ⟨o, ho, hc, n, hd⟩, hz⟩ := I2.tuple (ext_tup eN hs)
      exact go (.inr rfl) ho hc hd (by rw [← rv.length]; exact hz) rv
end
end

/-! ### rows of things, entries -/
theorem map_get {α : Type} {f : α → V} {l : List α} {i : Nat} {x : V} (h : (l.map f)[i]? = some x) : ∃ e, l[i]? = some e ∧ x = f e ∧ l.take (i + 1) = l.take i ++ [e] := by
  rw [List.getElem?_map] at h
  obtain ⟨e, h1, h2⟩ := Option.map_eq_some_iff.mp h
  refine ⟨e, h1, h2.symm, ?_⟩
  rw [List.take_succ, h1]
  rfl
theorem dpa_map {α : Type} {K : Frg} {H : Hp} {f : α → V} {g : α → PyData} : ∀ {l : List α}, (∀ e ∈ l, Dp K H (f e) (g e)) → DpAll K H (l.map f) (l.map g)
  | [], _ => .nil
  | x :: l, h => .cons (h x (List.mem_cons_self ..)) (dpa_map fun e he => h e (List.mem_cons_of_mem _ he))
theorem tpa_map {α : Type} {H : Hp} {f : α → V} {g : α → PyData} : ∀ {l : List α}, (∀ e ∈ l, Tp H (f e) (g e)) → TpAll H (l.map f) (l.map g)
  | [], _ => .nil
  | x :: l, h => .cons (h x (List.mem_cons_self ..)) (tpa_map fun e he => h e (List.mem_cons_of_mem _ he))
theorem vl_ref {H : Hp} {v : V} {t : Vl} (h : Tp H v t.dat) : ∃ u, v = .ref u := by
  cases t <;> (obtain ⟨a, _, e, _⟩ := tp_tup h; exact ⟨a, e⟩)
theorem EntAt.tk {H H' : Hp} {e : Ent} (k : Tk H H') (h : EntAt H e) : EntAt H' e := ⟨k _ _ h.1, k _ _ h.2⟩

local macro_rules | `(tactic| walk_at "ne") => `(tactic| first
  | assumption
  | (apply Ne.symm; assumption)
  | (refine ne_of_none ?_ ?_; rotate_left; assumption; walk_at "hl")
  | (apply Ne.symm; refine ne_of_none ?_ ?_; rotate_left; assumption; walk_at "hl"))
local macro_rules | `(tactic| walk_at "nm") => `(tactic| first
  | assumption
  | exact nm_nil
  | (refine nm_cons ?_ ?_; walk_at "ne"; walk_at "nm")
  | (refine nm_app ?_ ?_ <;> walk_at "nm"))
local macro_rules | `(tactic| walk_at "hl") => `(tactic| first
  | assumption
  | exact upd_same
  | (refine (upd_ne ?_).trans ?_; walk_at "ne"; walk_at "hl")
  | (refine Eb.get (by assumption) ?_ ?_; walk_at "ne"; walk_at "hl")
  | (refine Ch.get (by assumption) ?_ ?_; walk_at "nm"; walk_at "hl")
  | (refine Same.get (by assumption) ?_; walk_at "hl")
  | (refine Ch.tup (by assumption) ?_; walk_at "hl"))
local macro_rules | `(tactic| walk_at "ms") => `(tactic| first
  | assumption
  | exact ms_nil
  | (refine ms_cons ?_ ?_; (first | (left; simp; done) | (right; assumption)); walk_at "ms")
  | (refine ms_app ?_ ?_ <;> walk_at "ms"))
local macro_rules | `(tactic| walk_at "ch") => `(tactic| first
  | assumption
  | exact Ch.refl
  | (refine Ch.eb (by assumption) (by simp; done) ?_; walk_at "ch")
  | (refine Ch.ebn (by assumption) (by assumption) ?_; walk_at "ch")
  | (refine Ch.ch (by assumption) ?_ ?_; walk_at "ms"; walk_at "ch")
  | (refine Ch.same (by assumption) ?_; walk_at "ch"))
local macro_rules | `(tactic| walk_at "rh1") => `(tactic| first
  | (with_reducible refine r_seq ?_)
  | (with_reducible refine r_asg ?_)
  | (with_reducible refine r_name ?_)
  | ((with_reducible apply r_var); (· rfl))
  | (with_reducible refine r_c ?_)
  | (with_reducible refine r_op ?_)
  | (with_reducible refine r_I0 ?_)
  | (with_reducible refine r_eqI ?_)
  | (with_reducible refine r_neI ?_)
  | (with_reducible refine r_eqS ?_)
  | (with_reducible refine r_neS ?_)
  | (with_reducible refine r_cons ?_)
  | (with_reducible refine r_nil ?_)
  | (with_reducible refine r_test ?_)
  | (with_reducible refine r_B ?_)
  | (with_reducible refine r_bl ?_)
  | (with_reducible refine r_ret ?_)
  | (with_reducible refine r_drop ?_)
  | (with_reducible refine r_un ?_)
  | (with_reducible refine r_U ?_)
  | (with_reducible refine r_CB ?_)
  | (with_reducible refine r_call ?_)
  | (with_reducible refine r_retN ?_)
  | (with_reducible refine r_next ?_)
  | (with_reducible refine r_brk ?_)
  | (with_reducible refine r_and ?_)
  | (with_reducible refine r_or ?_)
  | (with_reducible refine r_not ?_)
  | (with_reducible refine r_andV ?_)
  | (with_reducible refine r_orV ?_)
  | (with_reducible refine r_notV ?_)
  | (with_reducible refine r_chain ?_)
  | (with_reducible refine r_iteF ?_)
  | (with_reducible refine r_iteT ?_)
  | (with_reducible refine r_iteNT ?_)
  | (with_reducible refine r_iteNF ?_)
  | ((with_reducible apply r_I); (· first | decide | exact ⟨by decide, by decide⟩ | exact .inr ⟨by decide, by decide⟩ | exact .inl ⟨by decide, by decide⟩ | exact ⟨by decide, by decide, by decide⟩))
  | (with_reducible refine r_bm ?_)
  | (with_reducible refine r_bm0 ?_)
  | (with_reducible refine r_sub ?_)
  | (with_reducible refine r_yes ?_)
  | (with_reducible refine r_fld ?_)
  | (with_reducible refine r_sfld ?_)
  | (with_reducible refine r_meth ?_)
  | (with_reducible refine r_prop ?_)
  | (with_reducible refine r_make ?_)
  | (with_reducible refine r_gcons ?_)
  | (with_reducible refine r_gnil ?_)
  | (with_reducible refine r_rfl ?_)
  | (with_reducible refine r_for ?_)
  | (with_reducible refine r_rng1 ?_)
  | (with_reducible refine r_int1 ?_)
  | (with_reducible refine r_abs ?_)
  | (with_reducible refine r_tup ?_)
  | (with_reducible refine r_lst ?_))
local macro_rules | `(tactic| walk_at "rh1") => `(tactic| first
  | (with_reducible refine r_sl ?_)
  | (with_reducible refine r_part ?_)
  | (with_reducible refine r_some ?_)
  | (with_reducible refine r_nopart ?_)
  | (with_reducible refine r_rng2 ?_)
  | (with_reducible refine r_rng3 ?_)
  | (with_reducible refine r_itL ?_)
  | (with_reducible refine r_itT ?_)
  | (with_reducible refine r_lcT ?_)
  | (with_reducible refine r_lcL ?_)
  | (with_reducible refine r_lc0 ?_))

local macro_rules | `(tactic| walk_at "fcl") => `(tactic| first | fail)
local macro_rules | `(tactic| walk_at "fna") => `(tactic| first | fail)
local macro_rules | `(tactic| walk_at "flk") => `(tactic| first | fail)
local macro_rules | `(tactic| walk_at "ffw") => `(tactic| first | fail)
local macro_rules | `(tactic| walk_at "fpt") => `(tactic| first | fail)
local macro_rules | `(tactic| walk_at "fno") => `(tactic| first | skip)
local macro_rules | `(tactic| walk_at "rf1") => `(tactic| first | (with_reducible refine r_lstE ?_) | (with_reducible refine r_tupE ?_) | (with_reducible refine r_dnwE ?_) | (with_reducible refine r_orT ?_) | (with_reducible refine r_din ?_) | (with_reducible refine r_dput ?_) | walk_at "rd1" | ((with_reducible apply r_fget); walk_at "hl"; walk_at "fcl"; walk_at "fna"; walk_at "flk") | ((with_reducible apply r_mget); walk_at "hl"; walk_at "fno") | ((with_reducible apply r_pget); walk_at "hl"))
local macro_rules | `(tactic| walk_at "rf") => `(tactic| repeat (walk_at "rf1"))
local macro_rules | `(tactic| walk_at "rg1") => `(tactic| first | (with_reducible refine r_lstE ?_) | (with_reducible refine r_tupE ?_) | (with_reducible refine r_dnwE ?_) | (with_reducible refine r_orT ?_) | (with_reducible refine r_din ?_) | (with_reducible refine r_dput ?_) | walk_at "ri1" | ((with_reducible apply r_fget); walk_at "hl"; walk_at "fcl"; walk_at "fna"; walk_at "flk") | ((with_reducible apply r_mget); walk_at "hl"; walk_at "fno") | ((with_reducible apply r_pget); walk_at "hl"))
local macro_rules | `(tactic| walk_at "rk1") => `(tactic| first | (with_reducible refine r_lstE ?_) | (with_reducible refine r_tupE ?_) | (with_reducible refine r_dnwE ?_) | (with_reducible refine r_orT ?_) | (with_reducible refine r_din ?_) | (with_reducible refine r_dput ?_) | walk_at "rh1" | ((with_reducible apply r_fget); walk_at "hl"; walk_at "fcl"; walk_at "fna"; walk_at "flk") | ((with_reducible apply r_mget); walk_at "hl"; walk_at "fno") | ((with_reducible apply r_pget); walk_at "hl"))
local macro_rules | `(tactic| walk_at "rk") => `(tactic| repeat (walk_at "rk1"))
local macro_rules | `(tactic| walk_at "rg") => `(tactic| repeat (walk_at "rg1"))
local macro_rules | `(tactic| walk_at "fs") => `(tactic| (apply r_fsetE; walk_at "hl"; walk_at "fcl"; walk_at "fna"; walk_at "ffw"; walk_at "fpt"))

/-! ### units -/
theorem small16M {n : Nat} (h : n ≤ 16000000) : n < sizeLine := Nat.lt_of_le_of_lt h (by decide)
def unit1 (c : Int) : List Int := if c < 65536 then [c] else [55296 + (c - 65536) / 1024, 56320 + (c - 65536) % 1024]
def unitsOf (ps : List Int) : List Int := ps.flatMap unit1
theorem units_len : ∀ ps : List Int, (unitsOf ps).length ≤ 2 * ps.length
  | [] => Nat.le_refl _
  | c :: ps => by
    have h := units_len ps
    have h1 : (unit1 c).length ≤ 2 := by unfold unit1; split <;> simp
    show (unit1 c ++ unitsOf ps).length ≤ _
    rw [List.length_append, List.length_cons]
    omega
theorem units_snoc (ps : List Int) (c : Int) : unitsOf (ps ++ [c]) = unitsOf ps ++ unit1 c := by
  unfold unitsOf
  rw [List.flatMap_append]
  simp
def Low9 (ps : List Int) : Prop := ps.length ≤ 1000 ∧ ∀ c ∈ ps, 0 ≤ c ∧ c ≤ 1114111
def OutE (H : Hp) (xs : List Int) (Q : VK) : Prop := ∀ (p : Addr) (H' : Hp), H p = none → H' p = some (.lst (xs.map V.int)) → Same H H' → Q (.ref p) H'
theorem r_extC {a b : Addr} {xs ys : List Int} {H : Hp} {Q : VK} (h1 : H a = some (.lst (xs.map V.int))) (h2 : H b = some (.lst (ys.map V.int))) (hl : xs.length + ys.length ≤ 16700000) (h : ∀ H', H' a = some (.lst ((xs ++ ys).map V.int)) → (∀ c o, c ≠ a → H c = some o → H' c = some o) → Q .non H') : rExtend (.ref a) [.ref b] H Q :=
  ⟨a, b, _, _, rfl, rfl, h1, h2, by rw [List.length_map, List.length_map]; exact Nat.le_trans hl (by decide), h _ (by rw [upd_same, cat_ints]) fun c o n e => (upd_ne n).trans e⟩
theorem same_on {H H1 H2 : Hp} {p : Addr} (s : Same H H1) (np : H p = none) (k : ∀ c o, c ≠ p → H1 c = some o → H2 c = some o) : Same H H2 := fun b o e => k b o (fun z => by rw [z, np] at e; cases e) (s b o e)
theorem r_catC {a b : Addr} {xs ys : List Int} {H : Hp} {Q : VK} (h1 : H a = some (.lst (xs.map V.int))) (h2 : H b = some (.lst (ys.map V.int))) (hl : xs.length + ys.length ≤ 16700000) (h : ∀ p H', H p = none → H' p = some (.lst ((xs ++ ys).map V.int)) → Same H H' → Q (.ref p) H') : rCat (.ref a) (.ref b) H Q :=
  ⟨a, b, _, _, rfl, rfl, h1, h2, Nat.le_trans (by rw [List.length_map, List.length_map]; exact hl) (by decide : 16700000 ≤ sizeLine), fun p hp => h p _ hp (by rw [upd_same, cat_ints]) (same_upd hp _)⟩
theorem new_s {H : Hp} {p : Addr} (hp : H p = none) (o : HO) : ∃ H', upd H p o = H' ∧ Same H H' ∧ H' p = some o := ⟨_, rfl, same_upd hp o, upd_same⟩
abbrev s_units : Stmt := (top 1)
theorem sc_units : FnScope ["points", "found", "point", "high", "low"] ["points"] (defScope s_units) := ⟨rfl, rfl, rfl, by decide +kernel, rfl, by decide +kernel, by decide +kernel⟩
abbrev s__law_units : Stmt := (top 10)
theorem sc__law_units : FnScope ["points", "found", "point"] ["points"] (defScope s__law_units) := ⟨rfl, rfl, rfl, by decide +kernel, rfl, by decide +kernel, by decide +kernel⟩
def sp_units (K : Frg) : Sp := sp1 fun a H Q _ => ∃ (p : Addr) (ps : List Int), a = .ref p ∧ (SqL K H p (ps.map V.int) ∨ SqT K H p (ps.map V.int)) ∧ Low9 ps ∧ OutE H (unitsOf ps) Q
def sp__law_units (K : Frg) : Sp := sp1 fun a H Q _ => ∃ (p : Addr) (ps : List Int), a = .ref p ∧ SqT K H p (ps.map V.int) ∧ Low9 ps ∧ OutE H (unitsOf ps) Q
section
variable {P : Program} {w : World} {K : PySem.W.Frag} {mg : Str → Option Value} {base : Heap} {f : Addr} {fd : FuncData}
theorem ok_units (F : FunD K "units" "units" (defArgs s_units) (defBody s_units) (defScope s_units) [] [] (glAd "units" K) fd) (m : mg "units" = some (.ref (glAd "units" K))) (nb : Nm K mg) : Cal P w K mg base 1 "units" (sp_units K) [] := by
  refine calD F m sc_units (fun _ _ _ _ _ _ us hl => match us, hl with | [_], _ => rfl) len1 (fun cdv A outer s H vs Q E hr h => ⟨_, (pss_cons (ps_set (i := 1) sc_units.nd rfl (Or.inl rfl) (pe_lstE pa_nil))
    (pss_cons (ps_for PassesOwn.never rfl (pi_or (pi_list (pv 0)) (pi_tup (pv 0))) (pg_name (i := 2) sc_units.nd rfl (Or.inl rfl))
    (pss_one (ps_if (pt_cmpR op_lt (pv 2) pe_int (nomark _))
    (pss_one (ps_expr (pe_bm PySem.F.plainAttrs_list PySem.F.slot_list_append PySem.F.type_list_append mt_append (pv 1) (pa_cons (pv 2) pa_nil))))
    (pss_cons (ps_asg (pe_callB call_divmod (by rfl) nb.divmod (by decide +kernel) (pa_cons (pe_op op_sub (pv 2) pe_int) (pa_cons pe_int pa_nil))) (pg_tup rfl (pgs_cons (pg_name (i := 3) sc_units.nd rfl (Or.inl rfl)) (pgs_cons (pg_name (i := 4) sc_units.nd rfl (Or.inl rfl)) pgs_nil))))
    (pss_one (ps_expr (pe_bm PySem.F.plainAttrs_list PySem.F.slot_list_extend PySem.F.type_list_extend mt_extend (pv 1) (pa_cons (pe_lstE (pa_cons (pe_op op_add pe_int (pv 3)) (pa_cons (pe_op op_add pe_int (pv 4)) pa_nil))) pa_nil))))))))
    (pss_one (ps_ret (pv 1))))), ?_⟩)
  obtain ⟨_, rfl, p, ps, rfl, hs, ⟨hl, hp⟩, h⟩ := h
  walk_at "rf"
  refine ⟨by show 0 ≤ sizeLine; decide, fun q1 H1 n1 g1 s1 => ?_⟩
  walk_at "rf"
  rcases hs with hs | hs
  · refine .inl ?_
    walk_at "rf"
    refine ⟨p, rfl, ⟨_, s1.seq hs⟩, ?_⟩
    refine r_eachL (xs := ps.map V.int) (fun i σ H' => Same H H' ∧ ∃ y2 y3 y4 : Option V, H' q1 = some (.lst ((unitsOf (ps.take i)).map V.int)) ∧ σ = [some (.ref p), some (.ref q1), y2, y3, y4]) ⟨s1, none, none, none, g1, rfl⟩ (fun i σ H' z => z.1.seq hs) ?_ ?_
    · rintro i x σ H2 hx ⟨s2, y2, y3, y4, g2, rfl⟩
      obtain ⟨c, hc, rfl, ec⟩ := ints_get hx
      have hi := (List.getElem?_eq_some_iff.mp hc).1
      have ul := units_len (ps.take i)
      rw [List.length_take] at ul
      have eu : unitsOf (ps.take (i + 1)) = unitsOf (ps.take i) ++ unit1 c := by rw [ec, units_snoc]
      walk_at "rf"
      refine r_ite (fun c1 => ?_) (fun c1 => ?_)
      · walk_at "rf"
        refine ⟨tyL g2, ?_⟩
        walk_at "rf"
        refine r_appE g2 (small16M (by rw [List.length_map]; omega)) fun H3 g3 f3 => ?_
        walk_at "rf"
        refine ⟨fun b u hb => f3.get (fun z => by rw [z, n1] at hb; cases hb) (s2 b u hb), _, _, _, ?_, rfl⟩
        rw [g3, eu, map_snoc]
        unfold unit1
        rw [if_pos c1]
      · walk_at "rf"
        refine ⟨_, _, rfl, ⟨by decide, by decide⟩, fun pd nd => ?_⟩
        obtain ⟨H3, e, s3, g3⟩ := new_s nd (.tup [.int ((c - 65536) / 1024), .int ((c - 65536) % 1024)])
        rw [e]
        clear e
        refine ⟨pd, _, rfl, SqT.of g3, rfl, ?_⟩
        walk_at "rf"
        refine ⟨tyL (s3 _ _ g2), ?_⟩
        walk_at "rf"
        refine ⟨by show 2 ≤ sizeLine; decide, fun q4 H4 n4 g4 s4 => ?_⟩
        walk_at "rf"
        refine r_extC (xs := unitsOf (ps.take i)) (ys := [55296 + (c - 65536) / 1024, 56320 + (c - 65536) % 1024]) ((s3.trans s4) _ _ g2) g4 (by show _ + 2 ≤ _; omega) fun H5 g5 k5 => ?_
        walk_at "rf"
        refine ⟨same_on (s2.trans (s3.trans s4)) n1 k5, _, _, _, ?_, rfl⟩
        rw [g5, eu]
        unfold unit1
        rw [if_neg c1]
    · rintro σ H2 ⟨s2, y2, y3, y4, g2, rfl⟩
      rw [List.length_map, List.take_length] at g2
      walk_at "rf"
      exact h q1 H2 n1 g2 s2
  · refine .inr ?_
    walk_at "rf"
    refine ⟨p, rfl, ⟨_, same_tup s1 hs⟩, ?_⟩
    refine r_eachT (xs := ps.map V.int) (fun i σ H' => Same H H' ∧ ∃ y2 y3 y4 : Option V, H' q1 = some (.lst ((unitsOf (ps.take i)).map V.int)) ∧ σ = [some (.ref p), some (.ref q1), y2, y3, y4]) ⟨s1, none, none, none, g1, rfl⟩ (fun i σ H' z => same_tup z.1 hs) ?_ ?_
    · rintro i x σ H2 hx ⟨s2, y2, y3, y4, g2, rfl⟩
      obtain ⟨c, hc, rfl, ec⟩ := ints_get hx
      have hi := (List.getElem?_eq_some_iff.mp hc).1
      have ul := units_len (ps.take i)
      rw [List.length_take] at ul
      have eu : unitsOf (ps.take (i + 1)) = unitsOf (ps.take i) ++ unit1 c := by rw [ec, units_snoc]
      walk_at "rf"
      refine r_ite (fun c1 => ?_) (fun c1 => ?_)
      · walk_at "rf"
        refine ⟨tyL g2, ?_⟩
        walk_at "rf"
        refine r_appE g2 (small16M (by rw [List.length_map]; omega)) fun H3 g3 f3 => ?_
        walk_at "rf"
        refine ⟨fun b u hb => f3.get (fun z => by rw [z, n1] at hb; cases hb) (s2 b u hb), _, _, _, ?_, rfl⟩
        rw [g3, eu, map_snoc]
        unfold unit1
        rw [if_pos c1]
      · walk_at "rf"
        refine ⟨_, _, rfl, ⟨by decide, by decide⟩, fun pd nd => ?_⟩
        obtain ⟨H3, e, s3, g3⟩ := new_s nd (.tup [.int ((c - 65536) / 1024), .int ((c - 65536) % 1024)])
        rw [e]
        clear e
        refine ⟨pd, _, rfl, SqT.of g3, rfl, ?_⟩
        walk_at "rf"
        refine ⟨tyL (s3 _ _ g2), ?_⟩
        walk_at "rf"
        refine ⟨by show 2 ≤ sizeLine; decide, fun q4 H4 n4 g4 s4 => ?_⟩
        walk_at "rf"
        refine r_extC (xs := unitsOf (ps.take i)) (ys := [55296 + (c - 65536) / 1024, 56320 + (c - 65536) % 1024]) ((s3.trans s4) _ _ g2) g4 (by show _ + 2 ≤ _; omega) fun H5 g5 k5 => ?_
        walk_at "rf"
        refine ⟨same_on (s2.trans (s3.trans s4)) n1 k5, _, _, _, ?_, rfl⟩
        rw [g5, eu]
        unfold unit1
        rw [if_neg c1]
    · rintro σ H2 ⟨s2, y2, y3, y4, g2, rfl⟩
      rw [List.length_map, List.take_length] at g2
      walk_at "rf"
      exact h q1 H2 n1 g2 s2
theorem ok__law_units (F : FunD K "_law_units" "_law_units" (defArgs s__law_units) (defBody s__law_units) (defScope s__law_units) [] [] (glAd "_law_units" K) fd) (m : mg "_law_units" = some (.ref (glAd "_law_units" K))) (nb : Nm K mg) : Cal P w K mg base 1 "_law_units" (sp__law_units K) [] := by
  refine calD F m sc__law_units (fun _ _ _ _ _ _ us hl => match us, hl with | [_], _ => rfl) len1 (fun cdv A outer s H vs Q E hr h => ⟨_, (pss_cons (ps_set (i := 1) sc__law_units.nd rfl (Or.inl rfl) (pe_lstE pa_nil))
    (pss_cons (ps_for PassesOwn.never rfl (pi_tup (pv 0)) (pg_name (i := 2) sc__law_units.nd rfl (Or.inl rfl))
    (pss_one (ps_if (pt_cmpR op_gt (pv 2) pe_int (nomark _))
    (pss_one (ps_set (i := 1) sc__law_units.nd rfl (Or.inl rfl) (pe_op op_cat (pv 1) (pe_lstE (pa_cons (pe_op op_add pe_int (pe_op op_fdiv (pe_op op_sub (pv 2) pe_int) pe_int)) (pa_cons (pe_op op_add pe_int (pe_op op_mod (pe_op op_sub (pv 2) pe_int) pe_int)) pa_nil))))))
    (pss_one (ps_expr (pe_bm PySem.F.plainAttrs_list PySem.F.slot_list_append PySem.F.type_list_append mt_append (pv 1) (pa_cons (pv 2) pa_nil)))))))
    (pss_one (ps_ret (pv 1))))), ?_⟩)
  obtain ⟨_, rfl, p, ps, rfl, hs, ⟨hl, hp⟩, h⟩ := h
  walk_at "rf"
  refine ⟨by show 0 ≤ sizeLine; decide, fun q1 H1 n1 g1 s1 => ?_⟩
  walk_at "rf"
  refine ⟨p, rfl, ⟨_, same_tup s1 hs⟩, ?_⟩
  refine r_eachT (xs := ps.map V.int) (fun i σ H' => Same H H' ∧ ∃ (q : Addr) (y2 : Option V), H q = none ∧ H' q = some (.lst ((unitsOf (ps.take i)).map V.int)) ∧ σ = [some (.ref p), some (.ref q), y2]) ⟨s1, q1, none, n1, g1, rfl⟩ (fun i σ H' z => same_tup z.1 hs) ?_ ?_
  · rintro i x σ H2 hx ⟨s2, q, y2, nq, g2, rfl⟩
    obtain ⟨c, hc, rfl, ec⟩ := ints_get hx
    have hi := (List.getElem?_eq_some_iff.mp hc).1
    have ul := units_len (ps.take i)
    rw [List.length_take] at ul
    have eu : unitsOf (ps.take (i + 1)) = unitsOf (ps.take i) ++ unit1 c := by rw [ec, units_snoc]
    walk_at "rf"
    refine r_ite (fun c1 => ?_) (fun c1 => ?_)
    · walk_at "rf"
      refine ⟨by show 2 ≤ sizeLine; decide, fun q4 H4 n4 g4 s4 => ?_⟩
      have g4 : H4 q4 = some (.lst (([55296 + (c - 65536) / 1024, 56320 + (c - 65536) % 1024] : List Int).map V.int)) := g4
      refine r_catC (s4 _ _ g2) g4 (by show _ + 2 ≤ _; omega) fun q5 H5 n5 g5 s5 => ?_
      walk_at "rf"
      refine ⟨s2.trans (s4.trans s5), q5, _, (s2.trans s4).free n5, ?_, rfl⟩
      rw [g5, eu]
      unfold unit1
      rw [if_neg (by omega)]
    · walk_at "rf"
      refine ⟨tyL g2, ?_⟩
      walk_at "rf"
      refine r_appE g2 (small16M (by rw [List.length_map]; omega)) fun H3 g3 f3 => ?_
      walk_at "rf"
      refine ⟨fun b u hb => f3.get (fun z => by rw [z, nq] at hb; cases hb) (s2 b u hb), q, _, nq, ?_, rfl⟩
      rw [g3, eu, map_snoc]
      unfold unit1
      rw [if_pos (by omega)]
  · rintro σ H2 ⟨s2, q, y2, nq, g2, rfl⟩
    rw [List.length_map, List.take_length] at g2
    walk_at "rf"
    exact h q H2 nq g2 s2
end

/-! ### sorted by units, by points -/
def lamsL : List Str := ["by_units", "by_points"]
theorem lams0 : ("by_units" : Str) ∈ lamsL := .head _
theorem lams1 : ("by_points" : Str) ∈ lamsL := .tail _ (.head _)
abbrev s_by_units : Stmt := (top 2)
theorem sc_by_units : FnScope ["entries"] ["entries"] (defScope s_by_units) := ⟨rfl, rfl, rfl, by decide +kernel, rfl, by decide +kernel, by decide +kernel⟩
abbrev s_by_points : Stmt := (top 3)
theorem sc_by_points : FnScope ["entries"] ["entries"] (defScope s_by_points) := ⟨rfl, rfl, rfl, by decide +kernel, rfl, by decide +kernel, by decide +kernel⟩
def encL (k : List Int) : PyData := .list (k.map PyData.int)
theorem depth_encL (k : List Int) : (encL k).depth ≤ 1 := by
  have e := PySem.W.depth_ints k
  show PyData.depthAll (k.map PyData.int) + 1 ≤ 1
  rw [show PyData.depthAll (k.map PyData.int) = 0 from e]
  exact Nat.le_refl _
def rowLe (p q : List Int) : Bool := decide (p ≤ q)
theorem le_rowLe : PySem.W.dataLe false encL = rowLe := PySem.W.dataLe_rows fun k => k
def refE (es : List Ent) : List V := es.map fun e => V.ref e.t
/-- entries in the order of their keys -/
def byK (f : List Int → List Int) (es : List Ent) : List Ent := es.mergeSort fun x y => rowLe (f x.k) (f y.k)
def keyK (f : List Int → List Int) (es : List Ent) : List PyData := (es.map fun e => f e.k).map encL
theorem srtK_ents (f : List Int → List Int) (es : List Ent) : srtK (refE es) (keyK f es) = refE (byK f es) := by
  have ez : (refE es).zip (keyK f es) = es.map fun e => (V.ref e.t, encL (f e.k)) := by
    unfold refE keyK
    rw [List.map_map]
    induction es with
    | nil => rfl
    | cons e es ih => simp only [List.map_cons, List.zip_cons_cons, ih]; rfl
  unfold srtK byK refE
  have em := List.map_mergeSort (r := fun x y : Ent => rowLe (f x.k) (f y.k)) (s := PySem.W.dataLe false fun b : KeyB => b.2) (f := fun e : Ent => ((V.ref e.t, encL (f e.k)) : KeyB)) (l := es) fun a _ b _ => by
    have e := congrFun (congrFun le_rowLe (f a.k)) (f b.k)
    exact e.symm
  unfold refE at ez
  rw [ez, ← em, List.map_map]
  rfl
/-- nothing but a table stands there -/
def Fr9 (H : Hp) (p : Addr) : Prop := ∀ b u, H b = some u → (∀ ps, u ≠ .tbl ps) → b ≠ p
theorem fr_of {H H2 H3 : Hp} {p : Addr} (e : LamX.ExtN H H2) (s : Same H2 H3) (n : H3 p = none) : Fr9 H p := fun b u h nt z => by
  have q := s _ _ (e b u h nt)
  rw [z, n] at q
  cases q
def sp_by (K : Frg) (f : List Int → List Int) : Sp := sp1 fun a H Q _ => ∃ (l : Addr) (es : List Ent), a = .ref l ∧ (SqL K H l (refE es) ∨ SqT K H l (refE es)) ∧ (∀ e ∈ es, EntAt H e ∧ Low9 e.k) ∧ LamX.Tabs (tbsOf K lamsL) H ∧
  ∀ (p : Addr) (H' : Hp), LamX.ExtN H H' → LamX.Tabs (tbsOf K lamsL) H' → Fr9 H p → H' p = some (.lst (refE (byK f es))) → Q (.ref p) H'
def sp_by_units (K : Frg) : Sp := sp_by K unitsOf
def sp_by_points (K : Frg) : Sp := sp_by K id
theorem ext_same {H H1 H2 : Hp} (a : LamX.ExtN H H1) (b : Same H1 H2) : LamX.ExtN H H2 := fun c o h n => b _ _ (a c o h n)
theorem EntAt.ext {H H' : Hp} {e : Ent} (x : LamX.ExtN H H') (h : EntAt H e) : EntAt H' e := ⟨x _ _ h.1 (fun ps z => by cases z), x _ _ h.2 (fun ps z => by cases z)⟩
theorem EntAt.same {H H' : Hp} {e : Ent} (x : Same H H') (h : EntAt H e) : EntAt H' e := ⟨x _ _ h.1, x _ _ h.2⟩
theorem tabs_same {T : List (Addr × Str)} {H H' : Hp} (t : LamX.Tabs T H) (s : Same H H') : LamX.Tabs T H' := t.ext s
theorem ref_at {es : List Ent} {i : Nat} {y : V} (h : (refE es)[i]? = some y) : ∃ e, es[i]? = some e ∧ e ∈ es ∧ y = .ref e.t := by
  unfold refE at h
  rw [List.getElem?_map] at h
  obtain ⟨e, he, rfl⟩ := Option.map_eq_some_iff.mp h
  exact ⟨e, he, List.mem_of_getElem? he, rfl⟩
theorem key_at {f : List Int → List Int} {es : List Ent} {i : Nat} {e : Ent} {d : PyData} (he : es[i]? = some e) (h : (keyK f es)[i]? = some d) : d = encL (f e.k) := by
  unfold keyK at h
  rw [List.getElem?_map, List.getElem?_map, he] at h
  exact (Option.some.inj h).symm
theorem keyK_ok (f : List Int → List Int) (es : List Ent) : (keyK f es).length = (refE es).length ∧ PySem.W.AllAlike (keyK f es) ∧ PySem.W.Sortable (keyK f es) ∧ ∀ d ∈ keyK f es, d.depth ≤ 40 := by
  refine ⟨by unfold keyK refE; rw [List.length_map, List.length_map, List.length_map], PySem.W.AllAlike.of fun b b' => PySem.W.alike_ints b b', PySem.W.Sortable.others fun b => ⟨(fun z => by cases z), (fun xs z => by cases z)⟩, fun d hd => ?_⟩
  obtain ⟨b, _, rfl⟩ := List.mem_map.mp hd
  exact Nat.le_trans (depth_encL b) (by decide)
theorem dp_list {K : Frg} {H : Hp} {q : Addr} {ns : List Int} (h : H q = some (.lst (ns.map V.int))) : Dp K H (.ref q) (encL ns) := .lst (SqL.of h) (dpa_ints ns)
section
variable {P : Program} {w : World} {K : PySem.W.Frag} {mg : Str → Option Value} {base : Heap} {f : Addr} {fd : FuncData}
theorem ok_by_units (F : FunD K "by_units" "by_units" (defArgs s_by_units) (defBody s_by_units) (defScope s_by_units) [] [] (glAd "by_units" K) fd) (m : mg "by_units" = some (.ref (glAd "by_units" K))) (nb : Nm K mg) (TB : ∀ q, q ∈ lamsL → LamX.TabB base mg (codeAt K (glAd q K)) (tabAt K q)) (lamN : (lamsL.map (tabAt K)).Nodup) (c_units : Cal P w K mg base 1 "units" (sp_units K) []) : Cal P w K mg base 5 "by_units" (sp_by_units K) [] := by
  refine calDT F m sc_by_units (fun _ _ _ _ _ _ us hl => match us, hl with | [_], _ => rfl) len1 (fun cdv hc A outer s H vs Q E hr h => ⟨_, (pss_one (ps_ret (pe_sortlam (T := tbsOf K lamsL) (N := ["entry"]) (p := "entry") (k := 1) (pa_cons (pv 0) pa_nil) (by rfl) nb.sorted (by decide +kernel) (TB _ lams0) hc (tbs_mem lams0) (tbs_one lamN lams0) (hr.mono (by decide)) ⟨rfl, rfl, rfl, by decide +kernel, rfl, by decide +kernel, by decide +kernel⟩ rfl (fun _ _ _ _ _ => rfl) (fun _ _ _ _ _ _ hr => (pe_c c_units hr (by decide) rfl (pa_cons (pe_ix (show IxR _ (rIxT K) from ix_tup) (pv 0) pe_int (fun _ _ => rfl)) pa_nil)))))), ?_⟩)
  obtain ⟨_, rfl, l, es, rfl, hs, he, tb, h⟩ := h
  walk_at "rf"
  obtain ⟨k1, k2, k3, k4⟩ := keyK_ok unitsOf es
  refine ⟨_, rfl, tb, l, refE es, keyK unitsOf es, rfl, hs, k1, k2, k3, k4, fun H2 eN T2 => ⟨fun i y d hy hd H3 s3 => ?_, fun p H3 s3 np => ?_⟩⟩
  · obtain ⟨e, hi, hm, rfl⟩ := ref_at hy
    have hd := key_at hi hd
    subst hd
    obtain ⟨⟨g1, g2⟩, lo⟩ := he e hm
    have e3 := EntAt.same s3 (EntAt.ext eN ⟨g1, g2⟩)
    walk_at "rf"
    refine r_ixT (SqT.of e3.1) (atI_nat (j := 0) rfl) ?_
    walk_at "rf"
    exact ⟨_, rfl, e.q, e.k, rfl, .inr (SqT.of e3.2), lo, fun q H' n g s => ⟨s, dp_list g⟩⟩
  · rw [srtK_ents]
    exact h p _ (ext_same eN (s3.trans (same_upd np _))) (tabs_same T2 (s3.trans (same_upd np _))) (fr_of eN s3 np) upd_same
theorem ok_by_points (F : FunD K "by_points" "by_points" (defArgs s_by_points) (defBody s_by_points) (defScope s_by_points) [] [] (glAd "by_points" K) fd) (m : mg "by_points" = some (.ref (glAd "by_points" K))) (nb : Nm K mg) (TB : ∀ q, q ∈ lamsL → LamX.TabB base mg (codeAt K (glAd q K)) (tabAt K q)) (lamN : (lamsL.map (tabAt K)).Nodup) : Cal P w K mg base 4 "by_points" (sp_by_points K) [] := by
  refine calDT F m sc_by_points (fun _ _ _ _ _ _ us hl => match us, hl with | [_], _ => rfl) len1 (fun cdv hc A outer s H vs Q E hr h => ⟨_, (pss_one (ps_ret (pe_sortlam (T := tbsOf K lamsL) (N := ["entry"]) (p := "entry") (k := 0) (pa_cons (pv 0) pa_nil) (by rfl) nb.sorted (by decide +kernel) (TB _ lams1) hc (tbs_mem lams1) (tbs_one lamN lams1) (hr.mono (by decide)) ⟨rfl, rfl, rfl, by decide +kernel, rfl, by decide +kernel, by decide +kernel⟩ rfl (fun _ _ _ _ _ => rfl) (fun _ _ _ _ _ _ hr => (pe_callTy (show CallR _ _ (rListE K) from call_list_ofE) (by rfl) nb.list (by decide +kernel) (pa_cons (pe_ix (show IxR _ (rIxT K) from ix_tup) (pv 0) pe_int (fun _ _ => rfl)) pa_nil)))))), ?_⟩)
  obtain ⟨_, rfl, l, es, rfl, hs, he, tb, h⟩ := h
  walk_at "rf"
  obtain ⟨k1, k2, k3, k4⟩ := keyK_ok id es
  refine ⟨_, rfl, tb, l, refE es, keyK id es, rfl, hs, k1, k2, k3, k4, fun H2 eN T2 => ⟨fun i y d hy hd H3 s3 => ?_, fun p H3 s3 np => ?_⟩⟩
  · obtain ⟨e, hi, hm, rfl⟩ := ref_at hy
    have hd := key_at hi hd
    subst hd
    obtain ⟨⟨g1, g2⟩, lo⟩ := he e hm
    have e3 := EntAt.same s3 (EntAt.ext eN ⟨g1, g2⟩)
    walk_at "rf"
    refine r_ixT (SqT.of e3.1) (atI_nat (j := 0) rfl) ?_
    walk_at "rf"
    exact r_toLt (SqT.of e3.2) fun q H' n g s => ⟨s, dp_list g⟩
  · rw [srtK_ents]
    exact h p _ (ext_same eN (s3.trans (same_upd np _))) (tabs_same T2 (s3.trans (same_upd np _))) (fr_of eN s3 np) upd_same
end

def Point (c : Int) : Prop := 0 ≤ c ∧ c ≤ 1114111 ∧ (c < 55296 ∨ 57344 ≤ c)
/-! ### the orders -/
theorem lex_lt : ∀ a b : List Int, HT.lexLt a b = decide (a < b)
  | [], [] => by rw [HT.lexLt_nil_nil]; exact (decide_eq_false (by simp)).symm
  | [], _ :: _ => by rw [HT.lexLt_nil_cons]; exact (decide_eq_true (by simp)).symm
  | _ :: _, [] => by rw [HT.lexLt_cons_nil]; exact (decide_eq_false (by simp)).symm
  | x :: xs, y :: ys => by
    rw [HT.lexLt_cons]
    by_cases c : x = y
    · rw [if_pos c, lex_lt xs ys]
      exact decide_eq_decide.mpr ⟨fun h => List.cons_lt_cons_iff.mpr (.inr ⟨c, h⟩), fun h => (List.cons_lt_cons_iff.mp h).elim (fun z => by omega) fun z => z.2⟩
    · rw [if_neg c]
      exact decide_eq_decide.mpr ⟨fun h => List.cons_lt_cons_iff.mpr (.inl h), fun h => (List.cons_lt_cons_iff.mp h).elim id fun z => absurd z.1 c⟩
theorem row_lex (a b : List Int) : rowLe a b = !HT.lexLt b a := by
  rw [lex_lt]
  unfold rowLe
  by_cases c : b < a
  · rw [decide_eq_true c, decide_eq_false (fun h : a ≤ b => h c)]
    rfl
  · rw [decide_eq_false c, decide_eq_true (show a ≤ b from c)]
    rfl
theorem byK_perm (f : List Int → List Int) (es : List Ent) : (byK f es).Perm es := List.mergeSort_perm _ _
theorem byK_sorted (f : List Int → List Int) (es : List Ent) : (byK f es).Pairwise fun x y => HT.lexLt (f y.k) (f x.k) = false := by
  have h := List.pairwise_mergeSort (le := fun x y : Ent => rowLe (f x.k) (f y.k)) (fun a b c h1 h2 => by
    rw [row_lex] at h1 h2 ⊢
    have h1 : HT.lexLt (f b.k) (f a.k) = false := by simpa using h1
    have h2 : HT.lexLt (f c.k) (f b.k) = false := by simpa using h2
    rw [lexLt_ntr _ _ _ h1 h2]
    rfl) (fun a b => by
    rw [row_lex, row_lex]
    cases c : HT.lexLt (f b.k) (f a.k) with
    | false => rfl
    | true => rw [lexLt_asym _ _ c]; rfl) es
  refine h.imp fun {a b} z => ?_
  rw [row_lex] at z
  simpa using z
theorem byK_strict {f : List Int → List Int} {es : List Ent} (nd : (es.map (·.k)).Nodup) (inj : ∀ a ∈ es, ∀ b ∈ es, f a.k = f b.k → a.k = b.k) {j : Nat} {a b : Ent} (ha : (byK f es)[j]? = some a) (hb : (byK f es)[j + 1]? = some b) : HT.lexLt (f a.k) (f b.k) = true := by
  have p := byK_perm f es
  have ma := p.mem_iff.mp (List.mem_of_getElem? ha)
  have mb := p.mem_iff.mp (List.mem_of_getElem? hb)
  obtain ⟨h1, e1⟩ := List.getElem?_eq_some_iff.mp ha
  obtain ⟨h2, e2⟩ := List.getElem?_eq_some_iff.mp hb
  have st := List.pairwise_iff_getElem.mp (byK_sorted f es) j (j + 1) h1 h2 (Nat.lt_succ_self j)
  rw [e1, e2] at st
  have nd2 : ((byK f es).map (·.k)).Nodup := (p.map _).nodup_iff.mpr nd
  have ne : a.k ≠ b.k := fun z => by
    have q := List.pairwise_iff_getElem.mp nd2 j (j + 1) (by simpa using h1) (by simpa using h2) (Nat.lt_succ_self j)
    rw [List.getElem_map, List.getElem_map, e1, e2] at q
    exact q z
  cases c : HT.lexLt (f a.k) (f b.k) with
  | true => rfl
  | false => exact absurd (inj a ma b mb (lexLt_tri _ _ c st)) ne
theorem units_inj : ∀ {xs ys : List Int}, (∀ c ∈ xs, Point c) → (∀ c ∈ ys, Point c) → unitsOf xs = unitsOf ys → xs = ys
  | [], [], _, _, _ => rfl
  | [], y :: ys, _, _, h => by
    have h : ([] : List Int) = unit1 y ++ unitsOf ys := h
    unfold unit1 at h
    split at h <;> simp at h
  | x :: xs, [], _, _, h => by
    have h : unit1 x ++ unitsOf xs = [] := h
    unfold unit1 at h
    split at h <;> simp at h
  | x :: xs, y :: ys, h1, h2, h => by
    have h : unit1 x ++ unitsOf xs = unit1 y ++ unitsOf ys := h
    have px := h1 x (List.mem_cons_self ..)
    have py := h2 y (List.mem_cons_self ..)
    unfold Point at px py
    have go : x = y → unitsOf xs = unitsOf ys → x :: xs = y :: ys := fun e q => by
      rw [e, units_inj (fun c hc => h1 c (List.mem_cons_of_mem _ hc)) (fun c hc => h2 c (List.mem_cons_of_mem _ hc)) q]
    unfold unit1 at h
    split at h
    · split at h
      · injection h with e q
        exact go e q
      · injection h with e q
        omega
    · split at h
      · injection h with e q
        omega
      · injection h with e q
        injection q with e2 q
        exact go (by omega) q
/-! ### the law's own order -/
theorem lex_at : ∀ {xs ys : List Int} {i : Nat} {a b : Int}, xs.take i = ys.take i → xs[i]? = some a → ys[i]? = some b → a ≠ b → HT.lexLt xs ys = decide (a < b)
  | x :: xs, y :: ys, 0, a, b, _, h1, h2, n => by
    cases (show some x = some a from h1)
    cases (show some y = some b from h2)
    rw [HT.lexLt_cons, if_neg n]
  | x :: xs, y :: ys, i + 1, a, b, h, h1, h2, n => by
    rw [List.take_succ_cons, List.take_succ_cons] at h
    injection h with h3 h4
    rw [HT.lexLt_cons, if_pos h3]
    exact lex_at h4 (by simpa using h1) (by simpa using h2) n
  | [], _, i, _, _, _, h1, _, _ => by simp at h1
  | _ :: _, [], i, _, _, _, _, h2, _ => by simp at h2
theorem lex_end : ∀ {xs ys : List Int}, xs.take (min xs.length ys.length) = ys.take (min xs.length ys.length) → HT.lexLt xs ys = decide (xs.length < ys.length)
  | [], [], _ => rfl
  | [], _ :: _, _ => by rw [HT.lexLt_nil_cons]; exact (decide_eq_true (Nat.succ_pos _)).symm
  | _ :: _, [], _ => by rw [HT.lexLt_cons_nil]; exact (decide_eq_false (Nat.not_lt_zero _)).symm
  | x :: xs, y :: ys, h => by
    rw [List.length_cons, List.length_cons, Nat.succ_min_succ, List.take_succ_cons, List.take_succ_cons] at h
    injection h with h3 h4
    rw [HT.lexLt_cons, if_pos h3, lex_end h4]
    exact decide_eq_decide.mpr ⟨fun z => Nat.succ_lt_succ z, fun z => Nat.lt_of_succ_lt_succ z⟩
abbrev s__law_less : Stmt := (top 11)
theorem sc__law_less : FnScope ["left", "right", "k"] ["left", "right"] (defScope s__law_less) := ⟨rfl, rfl, rfl, by decide +kernel, rfl, by decide +kernel, by decide +kernel⟩
def sp__law_less (K : Frg) : Sp := sp2 fun a b H Q _ => ∃ (p q : Addr) (xs ys : List Int), a = .ref p ∧ b = .ref q ∧ H p = some (.lst (xs.map V.int)) ∧ H q = some (.lst (ys.map V.int)) ∧ xs.length ≤ 4000 ∧ ys.length ≤ 4000 ∧ ∀ H', Same H H' → Q (.bl (HT.lexLt xs ys)) H'
section
variable {P : Program} {w : World} {K : PySem.W.Frag} {mg : Str → Option Value} {base : Heap} {f : Addr} {fd : FuncData}
theorem ok__law_less (F : FunD K "_law_less" "_law_less" (defArgs s__law_less) (defBody s__law_less) (defScope s__law_less) [] [] (glAd "_law_less" K) fd) (m : mg "_law_less" = some (.ref (glAd "_law_less" K))) (nb : Nm K mg) : Cal P w K mg base 1 "_law_less" (sp__law_less K) [] := by
  refine calD F m sc__law_less (fun _ _ _ _ _ _ us hl => match us, hl with | [_, _], _ => rfl) len2 (fun cdv A outer s H vs Q E hr h => ⟨_, (pss_cons (ps_for PassesOwn.never rfl (pi_range1 rfl nb.range (pa_cons (pe_callB (cr_min rfl) (by rfl) nb.min (by decide +kernel) (pa_cons (pe_lstE (pa_cons (pe_callB call_len_seq (by rfl) nb.len PySem.boot_len (pa_cons (pv 0) pa_nil)) (pa_cons (pe_callB call_len_seq (by rfl) nb.len PySem.boot_len (pa_cons (pv 1) pa_nil)) pa_nil))) pa_nil)) pa_nil)) (pg_name (i := 2) sc__law_less.nd rfl (Or.inl rfl))
    (pss_one (ps_if (pt_cmpR op_ne (pe_ix ix_list (pv 0) (pv 2) (fun _ _ => rfl)) (pe_ix ix_list (pv 1) (pv 2) (fun _ _ => rfl)) (nomark _))
    (pss_one (ps_ret (pe_cmpR op_lt (pe_ix ix_list (pv 0) (pv 2) (fun _ _ => rfl)) (pe_ix ix_list (pv 1) (pv 2) (fun _ _ => rfl)) (nomark _))))
    pss_nil)))
    (pss_one (ps_ret (pe_cmpR op_lt (pe_callB call_len_seq (by rfl) nb.len PySem.boot_len (pa_cons (pv 0) pa_nil)) (pe_callB call_len_seq (by rfl) nb.len PySem.boot_len (pa_cons (pv 1) pa_nil)) (nomark _))))), ?_⟩)
  obtain ⟨_, _, rfl, p, q, xs, ys, rfl, rfl, hp, hq, lx, ly, h⟩ := h
  walk_at "rf"
  refine ⟨p, _, rfl, .inl (SqL.of hp), ?_⟩
  rw [List.length_map]
  walk_at "rf"
  refine ⟨q, _, rfl, .inl (SqL.of hq), ?_⟩
  rw [List.length_map]
  walk_at "rf"
  refine ⟨by show 2 ≤ sizeLine; decide, fun pl H1 nl gl s1 => ?_⟩
  have gl : H1 pl = some (.lst (([(xs.length : Int), (ys.length : Int)] : List Int).map V.int)) := gl
  walk_at "rf"
  refine ⟨pl, _, rfl, SqL.of gl, by show 0 < 2; decide, fun m hm hall => ?_⟩
  have em : m = ((min xs.length ys.length : Nat) : Int) := by
    have h1 := hall xs.length (by simp)
    have h2 := hall ys.length (by simp)
    simp only [List.mem_cons, List.not_mem_nil, or_false] at hm
    omega
  subst em
  walk_at "rf"
  refine r_turns (by omega) (by omega) (fun i σ H' => Same H H' ∧ xs.take i = ys.take i ∧ ∃ y2, σ = [some (.ref p), some (.ref q), y2]) ⟨s1, rfl, _, rfl⟩ ?_ ?_
  · rintro i σ H2 hi ⟨s2, et, y2, rfl⟩
    have hi : i < min xs.length ys.length := by omega
    obtain ⟨a, ha⟩ : ∃ a, xs[i]? = some a := ⟨_, List.getElem?_eq_getElem (by omega)⟩
    obtain ⟨b, hb⟩ : ∃ b, ys[i]? = some b := ⟨_, List.getElem?_eq_getElem (by omega)⟩
    have ga : ∀ {H3 : Hp}, Same H H3 → ∀ {Q' : VK}, Q' (.int a) H3 → True := fun _ _ _ => trivial
    walk_at "rf"
    refine r_ixL (SqL.of (s2 _ _ hp)) (atI_nat (by rw [List.getElem?_map, ha]; rfl)) ?_
    walk_at "rf"
    refine r_ixL (SqL.of (s2 _ _ hq)) (atI_nat (by rw [List.getElem?_map, hb]; rfl)) ?_
    walk_at "rf"
    refine r_iten (fun c => ?_) (fun c => ?_)
    · walk_at "rf"
      refine r_ixL (SqL.of (s2 _ _ hp)) (atI_nat (by rw [List.getElem?_map, ha]; rfl)) ?_
      walk_at "rf"
      refine r_ixL (SqL.of (s2 _ _ hq)) (atI_nat (by rw [List.getElem?_map, hb]; rfl)) ?_
      walk_at "rf"
      have := h H2 s2
      rw [lex_at et ha hb (fun z => c (by rw [z]))] at this
      exact this
    · walk_at "rf"
      refine ⟨s2, ?_, _, rfl⟩
      have c : a = b := by simpa using c
      rw [List.take_succ, List.take_succ, et, ha, hb, c]
  · rintro σ H2 ⟨s2, et, y2, rfl⟩
    have e0 : ((min xs.length ys.length : Nat) : Int).toNat = min xs.length ys.length := by omega
    rw [e0] at et
    walk_at "rf"
    refine ⟨p, _, rfl, .inl (SqL.of (s2 _ _ hp)), ?_⟩
    rw [List.length_map]
    walk_at "rf"
    refine ⟨q, _, rfl, .inl (SqL.of (s2 _ _ hq)), ?_⟩
    rw [List.length_map]
    walk_at "rf"
    have := h H2 s2
    rw [lex_end et] at this
    have ed : decide ((xs.length : Int) < (ys.length : Int)) = decide (xs.length < ys.length) := decide_eq_decide.mpr ⟨fun z => by omega, fun z => by omega⟩
    rw [ed]
    exact this
end
theorem lay_encL (ns : List Int) : (encL ns).canLay0 = true := lay_ints ns
def rNeW (K : Frg) : R2 := fun x y H Q => ∃ d, Dp K H x d ∧ Dp K H y d ∧ d.canLay0 = true ∧ d.depth ≤ 150 ∧ Q (.bl false) H
theorem op_neW {X : Cx} {k : Nat} (hr : Room k X.A) : OpR X (compareOp .NotEq) (rNeW X.K) := by
  intro pins s σ H x y v u Q I rx ry h
  obtain ⟨d, hd, he, sd, sl, q⟩ := h
  obtain ⟨as, r1⟩ := Dp.reads I d x v hd rx
  obtain ⟨bs, r2⟩ := Dp.reads I d y u he ry
  have := hr.un
  refine SeqAt.compareNe_reads r1 r2 sd sd (by rw [Nat.min_self]; omega) ?_
  rw [SeqAt.eqv_refl d sd]
  exact ⟨.bl false, H, I, rfl, q⟩
abbrev s_law : Stmt := (top 12)
theorem sc_law : FnScope ["script", "state", "menu", "entries", "k", "key", "entry", "passed", "kind", "told", "left", "right", "j"] ["script"] (defScope s_law) := ⟨rfl, rfl, rfl, by decide +kernel, rfl, by decide +kernel, by decide +kernel⟩
def menu9 : List Int := [97, 98, 0, 55295, 57344, 65535, 65536, 66560, 1114111, 128512, 65281]
theorem menu9_in : ∀ v ∈ menu9, Point v := by
  intro v hv
  simp only [menu9, List.mem_cons, List.not_mem_nil, or_false] at hv
  rcases hv with e | e | e | e | e | e | e | e | e | e | e <;> rw [e] <;> unfold Point <;> omega
/-- a key of the menu -/
def Ky9 (ps : List Int) : Prop := ps.length ≤ 3 ∧ ∀ c ∈ ps, Point c
/-- its value -/
theorem ky_low {ps : List Int} (h : Ky9 ps) : Low9 ps := ⟨by have := h.1; omega, fun c hc => by have := h.2 c hc; unfold Point at this; omega⟩
/-- an entry and its value's number -/
abbrev En9 : Type := Ent × Int
def R9 (H : Hp) (x : En9) : Prop := EntAt H x.1 ∧ Ky9 x.1.k ∧ H x.1.u = some (.tup [.str "number", .int x.2, .int 0])
def dat9 (x : En9) : PyData := .tuple [kd x.1.k, .tuple [.str "number", .int x.2, .int 0]]
def ents (xs : List En9) : List Ent := xs.map (·.1)
theorem R9.tk {H H' : Hp} {x : En9} (k : Tk H H') (h : R9 H x) : R9 H' x := ⟨⟨k _ _ h.1.1, k _ _ h.1.2⟩, h.2.1, k _ _ h.2.2⟩
theorem ext_tk {H H' : Hp} (e : LamX.ExtN H H') : Tk H H' := fun b xs h => e b _ h fun ps z => by cases z
theorem dp9 {K : Frg} {H : Hp} {x : En9} (h : R9 H x) : Dp K H (.ref x.1.t) (dat9 x) := .tup (SqT.of h.1.1) (.cons (.tup (SqT.of h.1.2) (dpa_ints _)) (.cons (.tup (SqT.of h.2.2) (.cons (.str _) (.cons (.int _) (.cons (.int _) .nil)))) .nil))
theorem lay9 (x : En9) : (dat9 x).canLay0 = true ∧ (dat9 x).depth ≤ 2 := by
  refine ⟨?_, ?_⟩
  · show (PyData.canLay0 (kd x.1.k) && ((PyData.canLay0 (.str "number") && (true && (true && true))) && true)) = true
    rw [show PyData.canLay0 (kd x.1.k) = true from lay_kd _, show PyData.canLay0 (.str "number") = true by decide +kernel]
    rfl
  · have := depth_kd1 x.1.k
    show max (kd x.1.k).depth (max (max 0 (max 0 (max 0 0)) + 1) 0) + 1 ≤ 2
    omega
theorem lays9 : ∀ xs : List En9, PyData.canLayAll0 (xs.map dat9) = true ∧ PyData.depthAll (xs.map dat9) ≤ 2
  | [] => ⟨rfl, Nat.zero_le _⟩
  | x :: xs => by
    obtain ⟨h1, h2⟩ := lay9 x
    obtain ⟨k1, k2⟩ := lays9 xs
    refine ⟨?_, ?_⟩
    · show ((dat9 x).canLay0 && PyData.canLayAll0 (xs.map dat9)) = true
      rw [h1, k1]
      rfl
    · show max (dat9 x).depth (PyData.depthAll (xs.map dat9)) ≤ 2
      omega
theorem dps9 {K : Frg} {H : Hp} {xs : List En9} {p : Addr} (g : H p = some (.lst (refE (ents xs)))) (h : ∀ x ∈ xs, R9 H x) : Dp K H (.ref p) (.list (xs.map dat9)) := by
  refine .lst (SqL.of g) ?_
  unfold refE ents
  rw [List.map_map]
  exact dpa_map fun x hx => dp9 (h x hx)
theorem shaped9 (xs : List En9) : SeqAt.shaped (.list (xs.map dat9)) = true := by
  obtain ⟨h1, h2⟩ := lays9 xs
  refine Bool.and_eq_true_iff.mpr ⟨h1, decide_eq_true ?_⟩
  show PyData.depthAll (xs.map dat9) + 1 ≤ 64
  omega
theorem shaped1 (x : En9) : SeqAt.shaped (dat9 x) = true := by
  obtain ⟨h1, h2⟩ := lay9 x
  exact Bool.and_eq_true_iff.mpr ⟨h1, decide_eq_true (by omega)⟩
theorem LB.away9 {K : Frg} {S : SC} {H H1 : Hp} {l l1 : Int} (L1 : LB K S l1 H1) {D : Addr} (hD : H1 D = none) (L : LB K S l H) (o : HO) : LB K S l (upd H D o) := by
  refine ⟨L1.ls.away hD L.ls o, ?_⟩
  obtain ⟨_, k1, f1, e1⟩ := L1
  obtain ⟨_, k, f, e⟩ := L
  exact ⟨k, f, (upd_ne (fun z => by rw [z, hD] at e1; cases e1)).trans e⟩
theorem same_keep {S : SC} {H H1 H2 : Hp} (s : Same H H1) (k : Keep S H1 H2) (n : H S.a = none) : Same H H2 := fun b u h => k b u (fun z => by rw [z, n] at h; cases h) (s b u h)
theorem same_eb {H H1 H2 : Hp} {p : Addr} (s : Same H H1) (f : Eb p H1 H2) (n : H p = none) : Same H H2 := fun b u h => f.get (fun z => by rw [z, n] at h; cases h) (s b u h)
theorem eb_upd {H H2 : Hp} {p : Addr} {o : HO} (f : Eb p H H2) (g : H2 p = some o) : H2 = upd H p o := funext fun b => by
  by_cases c : b = p
  · rw [c, upd_same, g]
  · rw [upd_ne c, f.1 b c]
theorem perm_up9 {α β : Type} (f : α → β) {ys : List β} {xs : List α} (h : ys.Perm (xs.map f)) : ∃ zs : List α, zs.Perm xs ∧ ys = zs.map f := by
  generalize e : xs.map f = ws at h
  induction h generalizing xs with
  | nil => exact ⟨[], by rw [List.map_eq_nil_iff.mp e], rfl⟩
  | cons y _ ih =>
    cases xs with
    | nil => cases e
    | cons x xs =>
      rw [List.map_cons] at e
      injection e with e1 e2
      obtain ⟨zs, p, q⟩ := ih e2
      exact ⟨x :: zs, p.cons x, by rw [List.map_cons, e1, q]⟩
  | swap y z l =>
    match xs, e with
    | a :: b :: xs, e =>
      rw [List.map_cons, List.map_cons] at e
      injection e with e1 e2
      injection e2 with e2 e3
      exact ⟨b :: a :: xs, .swap _ _ _, by rw [List.map_cons, List.map_cons, e1, e2, e3]⟩
  | trans _ _ ih1 ih2 =>
    obtain ⟨zs, p, q⟩ := ih2 e
    obtain ⟨ws, p2, q2⟩ := ih1 q.symm
    exact ⟨ws, p2.trans p, q2⟩
theorem any9 {x : En9} {zs : List En9} (h : x ∈ zs) : ((zs.map dat9).any fun z => PyData.eqv z (dat9 x)) = true := List.any_eq_true.mpr ⟨dat9 x, List.mem_map.mpr ⟨x, h, rfl⟩, SeqAt.eqv_refl _ (lay9 x).1⟩
theorem keep_away9 {S : SC} {H H' : Hp} {D : Addr} {o : HO} (k : Keep S H H') (n : H D = none) : Keep S H (upd H' D o) := fun b u hb h => by
  rw [upd_ne (fun e => by rw [e, n] at h; cases h)]
  exact k b u hb h
def sp_lawT (K : Frg) : Sp := sp1 fun a H Q _ => ∃ (sl : Addr) (ns : List Int), a = .ref sl ∧ SqL K H sl (ns.map V.int) ∧ LamX.Tabs (tbsOf K lamsL) H ∧ ∀ H', Q (.bl true) H'
section
variable {P : Program} {w : World} {K : PySem.W.Frag} {mg : Str → Option Value} {base : Heap} {f : Addr} {fd : FuncData}
theorem ok_law (F : FunD K "law" "law" (defArgs s_law) (defBody s_law) (defScope s_law) [] [] (glAd "law" K) fd) (nb : Nm K mg) (c_units : Cal P w K mg base 1 "units" (sp_units K) []) (c_by_units : Cal P w K mg base 5 "by_units" (sp_by_units K) []) (c_by_points : Cal P w K mg base 4 "by_points" (sp_by_points K) []) (c__law_state : Cal P w K mg base 2 "_law_state" (sp__law_state K) []) (c__law_next : Cal P w K mg base 1 "_law_next" (sp__law_next K) []) (c__law_units : Cal P w K mg base 1 "_law_units" (sp__law_units K) []) (c__law_less : Cal P w K mg base 1 "_law_less" (sp__law_less K) []) : FnOk P w K mg base CX0 6 (glAd "law" K) fd ["script"] (sp_lawT K) := by
  refine fnD F sc_law len1 (fun cdv A outer s H vs Q E hr h => ⟨_, (pss_cons (ps_set (i := 1) sc_law.nd rfl (Or.inr rfl) (pe_c c__law_state hr (by decide) rfl (pa_cons (pv 0) (pa_cons pe_int pa_nil))))
    (pss_cons (ps_set (i := 2) sc_law.nd rfl (Or.inr rfl) (pe_lstE (pa_cons pe_int (pa_cons pe_int (pa_cons pe_int (pa_cons pe_int (pa_cons pe_int (pa_cons pe_int (pa_cons pe_int (pa_cons pe_int (pa_cons pe_int (pa_cons pe_int (pa_cons pe_int pa_nil)))))))))))))
    (pss_cons (ps_set (i := 3) sc_law.nd rfl (Or.inl rfl) (pe_lstE pa_nil))
    (pss_cons (ps_for PassesOwn.never rfl (pi_range1 rfl nb.range (pa_cons (pe_op op_add pe_int (pe_c c__law_next hr (by decide) rfl (pa_cons (pv 1) (pa_cons pe_int pa_nil)))) pa_nil)) (pg_name (i := 4) sc_law.nd rfl (Or.inl rfl))
    (pss_cons (ps_set (i := 5) sc_law.nd rfl (Or.inl rfl) (pe_callTy call_tuple_ofE (by rfl) nb.tuple (by decide +kernel) (pa_cons (pe_lc (own := [("j", 12)]) (g := gName 12) (tt := tYes) rfl sc_law.nd (pi_range1 rfl nb.range (pa_cons (pe_c c__law_next hr (by decide) rfl (pa_cons (pv 1) (pa_cons pe_int pa_nil))) pa_nil)) (blkOk_by (N := ["script", "state", "menu", "entries", "k", "key", "entry", "passed", "kind", "told", "left", "right", "j"]) (sc := defScope s_law) (by decide +kernel)) (fun _ _ _ _ _ => pg_name (i := 12) sc_law.nd rfl (Or.inl rfl)) (fun _ _ _ _ _ => pts_nil) (fun _ _ _ _ _ => (pe_ix (show IxR _ (rIxL K) from ix_list) (pv 2) (pe_c c__law_next hr (by decide) rfl (pa_cons (pv 1) (pa_cons pe_int pa_nil))) (fun _ _ => rfl)))) pa_nil)))
    (pss_one (ps_if (pt_cmpR (op_notInD (hu65 hr)) (pv 5) (pe_lc (own := [("entry", 6)]) (g := gName 6) (tt := tYes) rfl sc_law.nd (pi_list (pv 3)) (blkOk_by (N := ["script", "state", "menu", "entries", "k", "key", "entry", "passed", "kind", "told", "left", "right", "j"]) (sc := defScope s_law) (by decide +kernel)) (fun _ _ _ _ _ => pg_name (i := 6) sc_law.nd rfl (Or.inl rfl)) (fun _ _ _ _ _ => pts_nil) (fun _ _ _ _ _ => (pe_ix (show IxR _ (rIxT K) from ix_tup) (pv 6) pe_int (fun _ _ => rfl)))) rfl)
    (pss_one (ps_expr (pe_bm PySem.F.plainAttrs_list PySem.F.slot_list_append PySem.F.type_list_append mt_append (pv 3) (pa_cons (pe_tupE (pa_cons (pv 5) (pa_cons (pe_tupE (pa_cons pe_str (pa_cons (pe_op op_add (pe_op op_mul pe_int (pv 4)) pe_int) (pa_cons pe_int pa_nil)))) pa_nil))) pa_nil))))
    pss_nil))))
    (pss_cons (ps_set (i := 7) sc_law.nd rfl (Or.inl rfl) (pe_callTy call_list_ofE (by rfl) nb.list (by decide +kernel) (pa_cons (pv 3) pa_nil)))
    (pss_cons (ps_for PassesOwn.never rfl (pi_range1 rfl nb.range (pa_cons pe_int pa_nil)) (pg_name (i := 8) sc_law.nd rfl (Or.inl rfl))
    (pss_cons (ps_set (i := 9) sc_law.nd rfl (Or.inl rfl) (pe_ix ix_list (pe_lstE (pa_cons (pe_c c_by_units hr (by decide) rfl (pa_cons (pv 7) pa_nil)) (pa_cons (pe_c c_by_points hr (by decide) rfl (pa_cons (pe_callTy call_tuple_ofE (by rfl) nb.tuple (by decide +kernel) (pa_cons (pv 7) pa_nil)) pa_nil)) (pa_cons (pe_c c_by_units hr (by decide) rfl (pa_cons (pe_callTy call_tuple_ofE (by rfl) nb.tuple (by decide +kernel) (pa_cons (pv 7) pa_nil)) pa_nil)) (pa_cons (pe_c c_by_points hr (by decide) rfl (pa_cons (pv 7) pa_nil)) pa_nil))))) (pv 8) (fun _ _ => rfl)))
    (pss_cons (ps_if (PW.pt (pw_or (pt_not (pt_val (pe_callB call_isi (by rfl) nb.isinstance (by decide +kernel) (pa_cons (pv 9) (pa_cons (pe_bltn (v := .ty "list") (u := .type "list") (by rfl) nb.list (by decide +kernel) rfl) pa_nil))))) (pw_or (pt_cmpR op_ne (pe_callB call_len_seq (by rfl) nb.len PySem.boot_len (pa_cons (pv 9) pa_nil)) (pe_callB call_len_seq (by rfl) nb.len PySem.boot_len (pa_cons (pv 3) pa_nil)) (nomark _)) (pw_or1 (pt_cmpR (op_neW hr) (pv 7) (pv 3) (nomark _))))))
    (pss_one (ps_ret pe_bl))
    pss_nil)
    (pss_cons (ps_for PassesOwn.never rfl (pi_list (pv 3)) (pg_name (i := 6) sc_law.nd rfl (Or.inl rfl))
    (pss_one (ps_if (pt_cmpR (op_notInD (hu65 hr)) (pv 6) (pv 9) rfl)
    (pss_one (ps_ret pe_bl))
    pss_nil)))
    (pss_one (ps_for PassesOwn.never rfl (pi_range1 rfl nb.range (pa_cons (pe_op op_sub (pe_callB call_len_seq (by rfl) nb.len PySem.boot_len (pa_cons (pv 9) pa_nil)) pe_int) pa_nil)) (pg_name (i := 4) sc_law.nd rfl (Or.inl rfl))
    (pss_cons (ps_set (i := 10) sc_law.nd rfl (Or.inl rfl) (pe_callTy call_list_ofE (by rfl) nb.list (by decide +kernel) (pa_cons (pe_ix ix_tup (pe_ix ix_list (pv 9) (pv 4) (fun _ _ => rfl)) pe_int (fun _ _ => rfl)) pa_nil)))
    (pss_cons (ps_set (i := 11) sc_law.nd rfl (Or.inl rfl) (pe_callTy call_list_ofE (by rfl) nb.list (by decide +kernel) (pa_cons (pe_ix ix_tup (pe_ix ix_list (pv 9) (pe_op op_add (pv 4) pe_int) (fun _ _ => rfl)) pe_int (fun _ _ => rfl)) pa_nil)))
    (pss_cut (ps_if (pt_cmpR op_eq (pe_op op_mod (pv 8) pe_int) pe_int (nomark _))
    (pss_cons (ps_set (i := 10) sc_law.nd rfl (Or.inl rfl) (pe_c c__law_units hr (by decide) rfl (pa_cons (pe_ix ix_tup (pe_ix ix_list (pv 9) (pv 4) (fun _ _ => rfl)) pe_int (fun _ _ => rfl)) pa_nil)))
    (pss_one (ps_set (i := 11) sc_law.nd rfl (Or.inl rfl) (pe_c c__law_units hr (by decide) rfl (pa_cons (pe_ix ix_tup (pe_ix ix_list (pv 9) (pe_op op_add (pv 4) pe_int) (fun _ _ => rfl)) pe_int (fun _ _ => rfl)) pa_nil)))))
    pss_nil)
    (pss_one (ps_if (pt_not (pt_val (pe_c c__law_less hr (by decide) rfl (pa_cons (pv 10) (pa_cons (pv 11) pa_nil)))))
    (pss_one (ps_ret pe_bl))
    pss_nil)))))))))))
    (pss_cons (ps_for PassesOwn.never rfl (pi_list (pv 3)) (pg_name (i := 6) sc_law.nd rfl (Or.inl rfl))
    (pss_one (ps_if (PW.pt (pw_or (pt_cmpR (op_neW hr) (pe_c c_units hr (by decide) rfl (pa_cons (pe_ix ix_tup (pv 6) pe_int (fun _ _ => rfl)) pa_nil)) (pe_c c__law_units hr (by decide) rfl (pa_cons (pe_ix ix_tup (pv 6) pe_int (fun _ _ => rfl)) pa_nil)) (nomark _)) (pw_or1 (pt_cmpR (op_neW hr) (pe_c c_units hr (by decide) rfl (pa_cons (pe_callTy call_list_ofE (by rfl) nb.list (by decide +kernel) (pa_cons (pe_ix ix_tup (pv 6) pe_int (fun _ _ => rfl)) pa_nil)) pa_nil)) (pe_c c__law_units hr (by decide) rfl (pa_cons (pe_ix ix_tup (pv 6) pe_int (fun _ _ => rfl)) pa_nil)) (nomark _)))))
    (pss_one (ps_ret pe_bl))
    pss_nil)))
    (pss_one (ps_ret pe_bl))))))))), ?_⟩)
  obtain ⟨_, rfl, sl, ns, rfl, hs, tb, h⟩ := h
  walk_at "rf"
  refine ⟨_, _, rfl, sl, ns, 0, rfl, by congr 2, hs, fun S H1 eS1 eS2 L1 s1 nS => ?_⟩
  walk_at "rf"
  refine ⟨by show 11 ≤ sizeLine; decide, fun pm H2 nm gm s2 => ?_⟩
  have gm : H2 pm = some (.lst (menu9.map V.int)) := gm
  walk_at "rf"
  refine ⟨by show 0 ≤ sizeLine; decide, fun pE H3 nE gE s3 => ?_⟩
  walk_at "rf"
  have L3 := (L1.same s2).same s3
  have gm3 := s3 _ _ gm
  have mS := (L1.ne_free nm)
  have eS := ((L1.same s2).ne_free nE)
  have mE : pm ≠ pE := Same.ne nE gm
  refine b_next L3 (by decide) fun n0 H4 a4 b4 L4 k4 => ?_
  walk_at "rf"
  refine r_turns (by omega) (by omega) (fun i σ H' => LB K S 0 H' ∧ Same H H' ∧ H' pm = some (.lst (menu9.map V.int)) ∧ ∃ (es : List En9) (y4 y5 y6 : Option V), es.length ≤ i ∧ (∀ e ∈ es, R9 H' e) ∧ ((ents es).map (·.k)).Nodup ∧ H' pE = some (.lst (refE (ents es))) ∧ σ = [some (.ref sl), some (.ref S.a), some (.ref pm), some (.ref pE), y4, y5, y6, none, none, none, none, none, none])
    ⟨L4, same_keep (s1.trans (s2.trans s3)) k4 nS, k4 _ _ mS gm3, [], _, _, _, Nat.le_refl _, (fun e he => by cases he), List.nodup_nil, k4 _ _ eS gE, rfl⟩ ?_ ?_
  · rintro i σ H5 hi ⟨L5, k5, gm5, es, y4, y5, y6, el, he, nd, gE5, rfl⟩
    walk_at "rf"
    refine b_next L5 (by decide) fun n1 H6 a6 b6 L6 k6 => ?_
    walk_at "rf"
    refine ⟨by omega, by omega, fun D nD => ?_⟩
    have DS := L6.ne_free nD
    have gm6 := k6 _ _ mS gm5
    have gE6 := k6 _ _ eS gE5
    have he6 : ∀ x ∈ es, R9 H6 x := fun x hx => (he x hx).tk (keep_tk L5.ls k6)
    refine lc_range (fun j H' => LB K S 0 H' ∧ Keep S H6 H' ∧ ∃ ks : List Int, ks.length = j ∧ (∀ c ∈ ks, Point c) ∧ H' D = some (.lst (ks.map V.int))) ⟨L6.new nD _, Keep.of (same_upd nD _), [], rfl, (fun c hc => by cases hc), upd_same⟩ ?_ ?_
    · rintro j H7 hj ⟨L7, k7, ks, kl, kp, gD⟩
      walk_at "rf"
      refine ⟨rfl, ?_⟩
      walk_at "rf"
      refine b_next L7 (by decide) fun r H8 a8 b8 L8 k8 => ?_
      obtain ⟨v, hv, ev⟩ := atI_ints (ns := menu9) (k := r) a8 b8
      refine r_ixL (SqL.of (k8 _ _ mS (k7 _ _ mS gm6))) ev ?_
      refine ⟨_, k8 _ _ DS gD, small1000 (by rw [List.length_map]; omega), ?_, keep_away9 (k7.trans k8) nD, ks ++ [v], by rw [List.length_append, kl]; rfl, fun c hc => ?_, ?_⟩
      · exact LB.away9 L6 nD L8 _
      · rcases List.mem_append.mp hc with z | z
        · exact kp c z
        · rw [List.mem_singleton.mp z]
          exact menu9_in v hv
      · rw [upd_same, map_snoc]
    · rintro H7 ⟨L7, k7, ks, kl, kp, gD⟩
      have gm7 := k7 _ _ mS gm6
      have gE7 := k7 _ _ eS gE6
      have he7 : ∀ x ∈ es, R9 H7 x := fun x hx => (he6 x hx).tk (keep_tk L6.ls k7)
      have hky : Ky9 ks := ⟨by omega, kp⟩
      walk_at "rf"
      refine r_toT (SqL.of gD) fun q8 H8 n8 g8 s8 => ?_
      walk_at "rf"
      have gE8 := s8 _ _ gE7
      refine ⟨pE, rfl, ⟨_, SqL.of gE8⟩, fun D2 nD2 => ?_⟩
      refine lc_list (xs := refE (ents es)) (fun j H' => Same H8 H' ∧ H' D2 = some (.lst ((es.take j).map fun e => V.ref e.1.q))) ⟨same_upd nD2 _, upd_same⟩ (fun j H' _ hh => SqL.of (hh.1 _ _ gE8)) ?_ ?_
      · rintro j x H9 hx ⟨s9, g9⟩
        obtain ⟨en, hj, rfl, et⟩ := map_get (f := fun e : En9 => V.ref e.1.t) (l := es) (by unfold refE ents at hx; rw [List.map_map] at hx; exact hx)
        have r9 := (he7 en (List.mem_of_getElem? hj)).tk (Same.tk (s8.trans s9))
        walk_at "rf"
        refine ⟨rfl, ?_⟩
        walk_at "rf"
        refine r_ixT (SqT.of r9.1.1) (atI_nat (j := 0) rfl) ?_
        refine ⟨_, g9, small1000 (by rw [List.length_map, List.length_take]; omega), same_away s9 nD2, ?_⟩
        rw [upd_same, et, List.map_append]
        rfl
      rintro H9 ⟨s9, g9⟩
      have len9 : (refE (ents es)).length = es.length := by unfold refE ents; rw [List.length_map, List.length_map]
      rw [len9, List.take_length] at g9
      have s79 := s8.trans s9
      have he9 : ∀ x ∈ es, R9 H9 x := fun x hx => (he7 x hx).tk (Same.tk s79)
      refine ⟨kd ks, (es.map (·.1.k)).map kd, .tup (SqT.of (s9 _ _ g8)) (dpa_ints _), .lst (SqL.of g9) ?_, shaped_kd ks, shaped_kds _, ?_⟩
      · rw [List.map_map]
        exact dpa_map fun e he => .tup (SqT.of (he9 e he).1.2) (dpa_ints _)
      rw [eqv_kds]
      have k49 : Same H H9 := (same_keep (same_keep k5 k6 nS) k7 nS).trans s79
      refine r_bl (r_iten (fun c => ?_) (fun c => ?_))
      · walk_at "rf"
        refine ⟨tyL (s9 _ _ gE8), ?_⟩
        walk_at "rf"
        refine ⟨by show 3 ≤ sizeLine; decide, fun qn H10 n10 g10 s10 => ?_⟩
        walk_at "rf"
        refine ⟨by show 2 ≤ sizeLine; decide, fun qt H11 n11 g11 s11 => ?_⟩
        walk_at "rf"
        have s911 := s10.trans s11
        refine r_appE (s911 _ _ (s9 _ _ gE8)) (small16M (by rw [len9]; omega)) fun H12 g12 f12 => ?_
        walk_at "rf"
        have tk12 : Tk H9 H12 := (Same.tk s911).trans f12.tk
        have ne12 : ∀ {a : Addr} {u : HO}, H9 a = some u → a ≠ pE → H12 a = some u := fun h n => f12.get n (s911 _ _ h)
        have nE0 : H pE = none := (s1.trans s2).free nE
        refine ⟨by rw [eb_upd f12 g12]; exact LB.away9 (L1.same s2) nE (L7.same (s79.trans s911)) _, same_eb (k49.trans s911) f12 nE0, ne12 (s79 _ _ gm7) mE, es ++ [(⟨qt, q8, qn, ks⟩, 2 * (i : Int) + 1)], _, _, _, by rw [List.length_append]; show _ + 1 ≤ _; omega, fun x hx => ?_, ?_, ?_, rfl⟩
        · rcases List.mem_append.mp hx with z | z
          · exact (he9 x z).tk tk12
          · rw [List.mem_singleton.mp z]
            exact ⟨⟨f12.tk _ _ g11, f12.tk _ _ (s911 _ _ (s9 _ _ g8))⟩, hky, f12.tk _ _ (s11 _ _ g10)⟩
        · unfold ents at nd ⊢
          rw [List.map_append, List.map_append, List.nodup_append]
          refine ⟨nd, by simp, fun a ha b hb => ?_⟩
          have eb : b = ks := by simpa using hb
          rw [eb]
          rw [List.map_map] at ha
          exact fun z => c (z ▸ ha)
        · rw [g12]
          unfold refE ents
          simp
      · walk_at "rf"
        exact ⟨L7.same s79, k49, s79 _ _ gm7, es, _, _, _, by omega, he9, nd, s9 _ _ gE8, rfl⟩
  · rintro σ H5 ⟨L5, k5, gm5, es, y4, y5, y6, el, he, nd, gE5, rfl⟩
    have len5 : (refE (ents es)).length = es.length := by unfold refE ents; rw [List.length_map, List.length_map]
    walk_at "rf"
    refine r_toL (SqL.of gE5) fun pP H6 nP gP s6 => ?_
    walk_at "rf"
    have tb6 := tabs_same tb (k5.trans s6)
    have gE6 := s6 _ _ gE5
    have he6 : ∀ x ∈ es, R9 H6 x := fun x hx => (he x hx).tk (Same.tk s6)
    have el9 : es.length ≤ 10 := by omega
    clear L1 L3 L4 L5 gm gm3 gm5 gE gE5 he s1 s2 s3 k4 k5 tb nS
    refine r_turns (by decide) (by decide) (fun i σ H' => LamX.ExtN H6 H' ∧ LamX.Tabs (tbsOf K lamsL) H' ∧ ∃ (y4 y6 y8 y9 y10 y11 : Option V), σ = [some (.ref sl), some (.ref S.a), some (.ref pm), some (.ref pE), y4, y5, y6, some (.ref pP), y8, y9, y10, y11, none]) ⟨LamX.ExtN.refl _, tb6, _, _, _, _, _, _, rfl⟩ ?_ ?_
    · rintro i σ H7 hi ⟨e7, t7, y4, y6, y8, y9, y10, y11, rfl⟩
      have lst7 : ∀ {b : Addr} {xs : List V} {G : Hp}, LamX.ExtN H6 G → H6 b = some (.lst xs) → G b = some (.lst xs) := fun e h => e _ _ h fun ps z => by cases z
      have es9 : ∀ {G : Hp}, LamX.ExtN H6 G → ∀ e ∈ ents es, EntAt G e ∧ Low9 e.k := fun x e he => by
        unfold ents at he
        obtain ⟨z, hz, rfl⟩ := List.mem_map.mp he
        exact ⟨EntAt.ext x (he6 z hz).1, ky_low (he6 z hz).2.1⟩
      walk_at "rf"
      refine ⟨_, rfl, pP, ents es, rfl, .inl (SqL.of (lst7 e7 gP)), es9 e7, t7, fun p1 G1 x1 t1 _ g1 => ?_⟩
      have e1 := e7.trans x1
      walk_at "rf"
      refine r_toT (SqL.of (lst7 e1 gP)) fun p2 G2 n2 g2 s2 => ?_
      have e2 := ext_same e1 s2
      walk_at "rf"
      refine ⟨_, rfl, p2, ents es, rfl, .inr (SqT.of g2), es9 e2, tabs_same t1 s2, fun p3 G3 x3 t3 _ g3 => ?_⟩
      have e3 := e2.trans x3
      have g1 := x3 _ _ (s2 _ _ g1) fun ps z => by cases z
      walk_at "rf"
      refine r_toT (SqL.of (lst7 e3 gP)) fun p4 G4 n4 g4 s4 => ?_
      have e4 := ext_same e3 s4
      walk_at "rf"
      refine ⟨_, rfl, p4, ents es, rfl, .inr (SqT.of g4), es9 e4, tabs_same t3 s4, fun p5 G5 x5 t5 _ g5 => ?_⟩
      have e5 := e4.trans x5
      have g1 := x5 _ _ (s4 _ _ g1) fun ps z => by cases z
      have g3 := x5 _ _ (s4 _ _ g3) fun ps z => by cases z
      walk_at "rf"
      refine ⟨_, rfl, pP, ents es, rfl, .inl (SqL.of (lst7 e5 gP)), es9 e5, t5, fun p6 G6 x6 t6 _ g6 => ?_⟩
      have e6 := e5.trans x6
      have g1 := x6 _ _ g1 fun ps z => by cases z
      have g3 := x6 _ _ g3 fun ps z => by cases z
      have g5 := x6 _ _ g5 fun ps z => by cases z
      walk_at "rf"
      refine ⟨by show 4 ≤ sizeLine; decide, fun pl G7 nl gl sl7 => ?_⟩
      walk_at "rf"
      have e7' := ext_same e6 sl7
      have t7' := tabs_same t6 sl7
      obtain ⟨f, pt, hf, hat, gpt⟩ : ∃ (f : List Int → List Int) (pt : Addr), f = (if i % 2 = 0 then unitsOf else id) ∧ ([V.ref p1, .ref p3, .ref p5, .ref p6] : List V)[i]? = some (.ref pt) ∧ G7 pt = some (.lst (refE (byK f (ents es)))) := by
        have hi4 : i < 4 := by omega
        rcases (show i = 0 ∨ i = 1 ∨ i = 2 ∨ i = 3 by omega) with rfl | rfl | rfl | rfl
        · exact ⟨unitsOf, p1, rfl, rfl, sl7 _ _ g1⟩
        · exact ⟨id, p3, rfl, rfl, sl7 _ _ g3⟩
        · exact ⟨unitsOf, p5, rfl, rfl, sl7 _ _ g5⟩
        · exact ⟨id, p6, rfl, rfl, sl7 _ _ g6⟩
      clear g1 g3 g5 g6 t1 t3 t5 t6 e1 e2 e3 e4 e5 e6
      refine r_ixL (SqL.of gl) (atI_nat hat) ?_
      walk_at "rf"
      refine r_isi (c := "list") (d := "list") (b := true) (.base (.lst gpt)) rfl ?_
      walk_at "rf"
      have pmt := byK_perm f (ents es)
      have lent : (ents es).length = es.length := by unfold ents; rw [List.length_map]
      have lt : (refE (byK f (ents es))).length = es.length := by unfold refE; rw [List.length_map, pmt.length_eq, lent]
      refine ⟨pt, _, rfl, .inl (SqL.of gpt), ?_⟩
      rw [lt]
      walk_at "rf"
      refine ⟨pE, _, rfl, .inl (SqL.of (lst7 e7' gE6)), ?_⟩
      rw [len5]
      walk_at "rf"
      refine r_iten (fun c => absurd rfl c) (fun _ => ?_)
      walk_at "rf"
      have he7 : ∀ x ∈ es, R9 G7 x := fun x hx => (he6 x hx).tk (ext_tk e7')
      refine ⟨.list (es.map dat9), dps9 (lst7 e7' gP) he7, dps9 (lst7 e7' gE6) he7, (lays9 es).1, ?_, ?_⟩
      · show PyData.depthAll (es.map dat9) + 1 ≤ 150
        have := (lays9 es).2
        omega
      walk_at "rf"
      obtain ⟨zs, pz, ez⟩ := perm_up9 (fun e : En9 => e.1) pmt
      have ez : byK f (ents es) = ents zs := ez
      have gE7 := lst7 e7' gE6
      have dz : Dp K G7 (.ref pt) (.list (zs.map dat9)) := dps9 (by rw [← ez]; exact gpt) fun x hx => he7 x (pz.mem_iff.mp hx)
      refine ⟨pE, rfl, ⟨_, SqL.of gE7⟩, ?_⟩
      refine r_eachL (xs := refE (ents es)) (fun j σ H' => G7 = H' ∧ ∃ z6, σ = [some (.ref sl), some (.ref S.a), some (.ref pm), some (.ref pE), y4, y5, z6, some (.ref pP), some (.int (i : Nat)), some (.ref pt), y10, y11, none]) ⟨rfl, _, rfl⟩ (fun j σ H' hh => SqL.of (by rw [← hh.1]; exact gE7)) ?_ ?_
      · rintro j x σ _ hx ⟨rfl, z6, rfl⟩
        obtain ⟨en, hj, rfl, _⟩ := map_get (f := fun e : En9 => V.ref e.1.t) (l := es) (by unfold refE ents at hx; rw [List.map_map] at hx; exact hx)
        have hm := List.mem_of_getElem? hj
        walk_at "rf"
        refine ⟨dat9 en, zs.map dat9, dp9 (he7 en hm), dz, shaped1 en, shaped9 zs, ?_⟩
        rw [any9 (pz.mem_iff.mpr hm)]
        walk_at "rf"
        exact ⟨rfl, _, rfl⟩
      rintro σ _ ⟨rfl, z6, rfl⟩
      walk_at "rf"
      refine ⟨pt, _, rfl, .inl (SqL.of gpt), ?_⟩
      rw [lt]
      walk_at "rf"
      have nd2 := nd
      have inj : ∀ a ∈ ents es, ∀ b ∈ ents es, f a.k = f b.k → a.k = b.k := fun a ha b hb e => by
        rw [hf] at e
        have la : Ky9 a.k := by
          obtain ⟨z, hz, rfl⟩ := List.mem_map.mp (show a ∈ es.map (fun x : En9 => x.1) from ha)
          exact (he7 z hz).2.1
        have lb : Ky9 b.k := by
          obtain ⟨z, hz, rfl⟩ := List.mem_map.mp (show b ∈ es.map (fun x : En9 => x.1) from hb)
          exact (he7 z hz).2.1
        split at e
        · exact units_inj la.2 lb.2 e
        · exact e
      refine r_turns (by omega) (by omega) (fun j σ H' => Same G7 H' ∧ ∃ z4 z10 z11, σ = [some (.ref sl), some (.ref S.a), some (.ref pm), some (.ref pE), z4, y5, z6, some (.ref pP), some (.int (i : Nat)), some (.ref pt), z10, z11, none]) ⟨fun _ _ q => q, _, _, _, rfl⟩ ?_ ?_
      · rintro j σ H8 hj ⟨s8, z4, z10, z11, rfl⟩
        have bl : (byK f (ents es)).length = es.length := by rw [pmt.length_eq, lent]
        obtain ⟨a, ha⟩ : ∃ a, (byK f (ents es))[j]? = some a := ⟨_, List.getElem?_eq_getElem (by omega)⟩
        obtain ⟨b, hb⟩ : ∃ b, (byK f (ents es))[j + 1]? = some b := ⟨_, List.getElem?_eq_getElem (by omega)⟩
        have st := byK_strict nd inj ha hb
        have hra : (refE (byK f (ents es)))[j]? = some (.ref a.t) := by unfold refE; rw [List.getElem?_map, ha]; rfl
        have hrb : (refE (byK f (ents es)))[j + 1]? = some (.ref b.t) := by unfold refE; rw [List.getElem?_map, hb]; rfl
        have ea : EntAt G7 a ∧ Ky9 a.k := by
          obtain ⟨z, hz, rfl⟩ := List.mem_map.mp (show a ∈ es.map (fun x : En9 => x.1) from pmt.mem_iff.mp (List.mem_of_getElem? ha))
          exact ⟨(he7 z hz).1, (he7 z hz).2.1⟩
        have eb : EntAt G7 b ∧ Ky9 b.k := by
          obtain ⟨z, hz, rfl⟩ := List.mem_map.mp (show b ∈ es.map (fun x : En9 => x.1) from pmt.mem_iff.mp (List.mem_of_getElem? hb))
          exact ⟨(he7 z hz).1, (he7 z hz).2.1⟩
        have ej : (j : Int) + 1 = ((j + 1 : Nat) : Int) := by omega
        walk_at "rf"
        refine r_ixL (SqL.of (s8 _ _ gpt)) (atI_nat hra) ?_
        walk_at "rf"
        refine r_ixT (SqT.of (s8 _ _ ea.1.1)) (atI_nat (j := 0) rfl) ?_
        walk_at "rf"
        refine r_toLt (SqT.of (s8 _ _ ea.1.2)) fun l1 J1 n1 g1 t1 => ?_
        walk_at "rf"
        rw [ej]
        have s9 := s8.trans t1
        refine r_ixL (SqL.of (s9 _ _ gpt)) (atI_nat hrb) ?_
        walk_at "rf"
        refine r_ixT (SqT.of (s9 _ _ eb.1.1)) (atI_nat (j := 0) rfl) ?_
        walk_at "rf"
        refine r_toLt (SqT.of (s9 _ _ eb.1.2)) fun l2 J2 n2 g2 t2 => ?_
        walk_at "rf"
        have s10 := s9.trans t2
        refine r_cut (fun σ H' => Same G7 H' ∧ ∃ q1 q2, H' q1 = some (.lst ((f a.k).map V.int)) ∧ H' q2 = some (.lst ((f b.k).map V.int)) ∧ σ = [some (.ref sl), some (.ref S.a), some (.ref pm), some (.ref pE), some (.int (j : Nat)), y5, z6, some (.ref pP), some (.int (i : Nat)), some (.ref pt), some (.ref q1), some (.ref q2), none]) ?_ ?_
        · walk_at "rf"
          refine r_ite (fun c => ?_) (fun c => ?_)
          · have ef : f = unitsOf := by rw [hf, if_pos (by omega)]
            walk_at "rf"
            refine r_ixL (SqL.of (s10 _ _ gpt)) (atI_nat hra) ?_
            walk_at "rf"
            refine r_ixT (SqT.of (s10 _ _ ea.1.1)) (atI_nat (j := 0) rfl) ?_
            walk_at "rf"
            refine ⟨_, rfl, a.q, a.k, rfl, SqT.of (s10 _ _ ea.1.2), ky_low ea.2, fun q1 J3 m1 d1 u1 => ?_⟩
            walk_at "rf"
            rw [ej]
            have s11 := s10.trans u1
            refine r_ixL (SqL.of (s11 _ _ gpt)) (atI_nat hrb) ?_
            walk_at "rf"
            refine r_ixT (SqT.of (s11 _ _ eb.1.1)) (atI_nat (j := 0) rfl) ?_
            walk_at "rf"
            refine ⟨_, rfl, b.q, b.k, rfl, SqT.of (s11 _ _ eb.1.2), ky_low eb.2, fun q2 J4 m2 d2 u2 => ?_⟩
            walk_at "rf"
            rw [ef]
            exact ⟨s11.trans u2, q1, q2, u2 _ _ d1, d2, rfl⟩
          · have ef : f = id := by rw [hf, if_neg (by omega)]
            walk_at "rf"
            rw [ef]
            exact ⟨s10, l1, l2, t2 _ _ g1, g2, rfl⟩
        rintro σ J3 ⟨s11, q1, q2, d1, d2, rfl⟩
        walk_at "rf"
        have lenf : ∀ ps : List Int, Ky9 ps → (f ps).length ≤ 4000 := fun ps hp => by
          have h3 := hp.1
          have h4 := units_len ps
          rw [hf]
          split
          · omega
          · show ps.length ≤ 4000
            omega
        refine ⟨_, _, rfl, q1, q2, f a.k, f b.k, rfl, rfl, d1, d2, lenf _ ea.2, lenf _ eb.2, fun J4 u4 => ?_⟩
        rw [st]
        walk_at "rf"
        exact ⟨s11.trans u4, _, _, _, rfl⟩
      rintro σ H8 ⟨s8, z4, z10, z11, rfl⟩
      walk_at "rf"
      exact ⟨ext_same e7' s8, tabs_same t7' s8, _, _, _, _, _, _, rfl⟩
    · rintro σ H7 ⟨e7, t7, y4, y6, y8, y9, y10, y11, rfl⟩
      have gE7 : H7 pE = some (.lst (refE (ents es))) := e7 _ _ gE6 fun ps z => by cases z
      have he7 : ∀ x ∈ es, R9 H7 x := fun x hx => (he6 x hx).tk (ext_tk e7)
      walk_at "rf"
      refine ⟨pE, rfl, ⟨_, SqL.of gE7⟩, ?_⟩
      refine r_eachL (xs := refE (ents es)) (fun j σ H' => Same H7 H' ∧ ∃ z6, σ = [some (.ref sl), some (.ref S.a), some (.ref pm), some (.ref pE), y4, y5, z6, some (.ref pP), y8, y9, y10, y11, none]) ⟨fun _ _ q => q, _, rfl⟩ (fun j σ H' hh => SqL.of (hh.1 _ _ gE7)) ?_ ?_
      · rintro j x σ H8 hx ⟨s8, z6, rfl⟩
        obtain ⟨en, hj, rfl, _⟩ := map_get (f := fun e : En9 => V.ref e.1.t) (l := es) (by unfold refE ents at hx; rw [List.map_map] at hx; exact hx)
        have r8 := (he7 en (List.mem_of_getElem? hj)).tk (Same.tk s8)
        walk_at "rf"
        refine r_ixT (SqT.of r8.1.1) (atI_nat (j := 0) rfl) ?_
        walk_at "rf"
        refine ⟨_, rfl, en.1.q, en.1.k, rfl, .inr (SqT.of r8.1.2), ky_low r8.2.1, fun p9 H9 n9 g9 s9 => ?_⟩
        walk_at "rf"
        have r9 := r8.tk (Same.tk s9)
        refine r_ixT (SqT.of r9.1.1) (atI_nat (j := 0) rfl) ?_
        walk_at "rf"
        refine ⟨_, rfl, en.1.q, en.1.k, rfl, SqT.of r9.1.2, ky_low r9.2.1, fun p10 H10 n10 g10 s10 => ?_⟩
        walk_at "rf"
        refine ⟨encL (unitsOf en.1.k), dp_list (s10 _ _ g9), dp_list g10, lay_encL _, Nat.le_trans (depth_encL _) (by decide), ?_⟩
        walk_at "rf"
        have r10 := r9.tk (Same.tk s10)
        refine r_ixT (SqT.of r10.1.1) (atI_nat (j := 0) rfl) ?_
        walk_at "rf"
        refine r_toLt (SqT.of r10.1.2) fun p11 H11 n11 g11 s11 => ?_
        walk_at "rf"
        refine ⟨_, rfl, p11, en.1.k, rfl, .inl (SqL.of g11), ky_low r9.2.1, fun p12 H12 n12 g12 s12 => ?_⟩
        walk_at "rf"
        have r12 := r10.tk (Same.tk (s11.trans s12))
        refine r_ixT (SqT.of r12.1.1) (atI_nat (j := 0) rfl) ?_
        walk_at "rf"
        refine ⟨_, rfl, en.1.q, en.1.k, rfl, SqT.of r12.1.2, ky_low r9.2.1, fun p13 H13 n13 g13 s13 => ?_⟩
        walk_at "rf"
        refine ⟨encL (unitsOf en.1.k), dp_list (s13 _ _ g12), dp_list g13, lay_encL _, Nat.le_trans (depth_encL _) (by decide), ?_⟩
        walk_at "rf"
        exact ⟨(s8.trans (s9.trans s10)).trans ((s11.trans s12).trans s13), _, rfl⟩
      · rintro σ H8 ⟨s8, z6, rfl⟩
        walk_at "rf"
        exact h _
end

def d_units : DefM := { ad := glAd "units", nm := "units", ql := "units", pa := defArgs s_units, bo := defBody s_units, sc := defScope s_units }
def d_by_units : DefM := { ad := glAd "by_units", nm := "by_units", ql := "by_units", pa := defArgs s_by_units, bo := defBody s_by_units, sc := defScope s_by_units }
def d_by_points : DefM := { ad := glAd "by_points", nm := "by_points", ql := "by_points", pa := defArgs s_by_points, bo := defBody s_by_points, sc := defScope s_by_points }
def d__law_cell : DefM := { ad := glAd "_law_cell", nm := "_law_cell", ql := "_law_cell", pa := defArgs s__law_cell, bo := defBody s__law_cell, sc := defScope s__law_cell }
def d__law_numbers : DefM := { ad := glAd "_law_numbers", nm := "_law_numbers", ql := "_law_numbers", pa := defArgs s__law_numbers, bo := defBody s__law_numbers, sc := defScope s__law_numbers }
def d__law_state : DefM := { ad := glAd "_law_state", nm := "_law_state", ql := "_law_state", pa := defArgs s__law_state, bo := defBody s__law_state, sc := defScope s__law_state }
def d__law_next : DefM := { ad := glAd "_law_next", nm := "_law_next", ql := "_law_next", pa := defArgs s__law_next, bo := defBody s__law_next, sc := defScope s__law_next }
def d__law_units : DefM := { ad := glAd "_law_units", nm := "_law_units", ql := "_law_units", pa := defArgs s__law_units, bo := defBody s__law_units, sc := defScope s__law_units }
def d__law_less : DefM := { ad := glAd "_law_less", nm := "_law_less", ql := "_law_less", pa := defArgs s__law_less, bo := defBody s__law_less, sc := defScope s__law_less }
def d_law : DefM := { ad := glAd "law", nm := "law", ql := "law", pa := defArgs s_law, bo := defBody s_law, sc := defScope s_law }
def fn : List DefM := [d_units, d_by_units, d_by_points, d__law_cell, d__law_numbers, d__law_state, d__law_next, d__law_units, d__law_less, d_law]
def fa : List He.Fa := [.glo "units", .glo "by_units", .glo "by_points", .glo "_law_cell", .glo "_law_numbers", .glo "_law_state", .glo "_law_next", .glo "_law_units", .glo "_law_less", .glo "law", .free "divmod", .free "sorted", .free "len", .free "abs", .free "range", .free "int", .free "min", .free "tuple", .free "list", .free "isinstance"]
def ex (K : Frg) : Bool := digB K
abbrev RR : PySem.W.OpenRow := PySem.W.OpenLaw.row PySem.Challenge.rw_formsalike_k09_orders
def loose : List PySem.Str := (["units", "by_units", "by_points", "_law_cell", "_law_numbers", "_law_state", "_law_next", "_law_big", "_law_units", "_law_less"] : List PySem.Str)
abbrev hk : PySem.W.Hook := hookMT 5 fa ex fn lamsL
def ob (s : PySem.W.SharedT) : AlMT := obsMT fa ex fn lamsL (HandSHeadRun.getT s) (frMT 5 (HandSHeadRun.getT s))
theorem ob_eq (s : PySem.W.SharedT) : ob s = hk.obs s.abs := obsMT_eq (HandSHeadRun.getT_eq s)
theorem run (w : World) : HandSHeadRun.RunEq RR (PySem.W.view RR.prog [12]) hk ob 6000 loose w := by
  intro os
  kernel_rfl
theorem facts {P : Program} {w : World} {K : PySem.W.Frag} {h : Heap} {mg : Str → Option Value} {f : Addr} (X : K.In h) (G : h.Ns mainGlobals mg) (hfa : mg ("law" : Str) = some (.ref f)) (c : SaysM fa ex fn K) (l : LamsAt lamsL h K) :
    ∃ fd : FuncData, (∀ (s : Shared) (v : Value), BindsTo s fd ⟨[v], []⟩ [("script", v)]) ∧ ∀ base : Heap, K.In base → base.Ns mainGlobals mg → (∀ p ∈ csOf K lamsL, LamX.TabB base mg p.1 p.2) → FnOk P w K mg base CX0 6 f fd ["script"] (sp_lawT K) := by
  obtain ⟨fd_units, F_units⟩ := c.def_ 0 (d := d_units) rfl
  obtain ⟨fd_by_units, F_by_units⟩ := c.def_ 1 (d := d_by_units) rfl
  obtain ⟨fd_by_points, F_by_points⟩ := c.def_ 2 (d := d_by_points) rfl
  obtain ⟨fd__law_cell, F__law_cell⟩ := c.def_ 3 (d := d__law_cell) rfl
  obtain ⟨fd__law_numbers, F__law_numbers⟩ := c.def_ 4 (d := d__law_numbers) rfl
  obtain ⟨fd__law_state, F__law_state⟩ := c.def_ 5 (d := d__law_state) rfl
  obtain ⟨fd__law_next, F__law_next⟩ := c.def_ 6 (d := d__law_next) rfl
  obtain ⟨fd__law_units, F__law_units⟩ := c.def_ 7 (d := d__law_units) rfl
  obtain ⟨fd__law_less, F__law_less⟩ := c.def_ 8 (d := d__law_less) rfl
  obtain ⟨fd_law, F_law⟩ := c.def_ 9 (d := d_law) rfl
  have m_units := He.glo_ok X G (x := "units") (c.fact 0 rfl)
  have m_by_units := He.glo_ok X G (x := "by_units") (c.fact 1 rfl)
  have m_by_points := He.glo_ok X G (x := "by_points") (c.fact 2 rfl)
  have m__law_cell := He.glo_ok X G (x := "_law_cell") (c.fact 3 rfl)
  have m__law_numbers := He.glo_ok X G (x := "_law_numbers") (c.fact 4 rfl)
  have m__law_state := He.glo_ok X G (x := "_law_state") (c.fact 5 rfl)
  have m__law_next := He.glo_ok X G (x := "_law_next") (c.fact 6 rfl)
  have m__law_units := He.glo_ok X G (x := "_law_units") (c.fact 7 rfl)
  have m__law_less := He.glo_ok X G (x := "_law_less") (c.fact 8 rfl)
  have m_law := He.glo_ok X G (x := "law") (c.fact 9 rfl)
  have xx : ex K = true := c.more
  have x0 := xx
  have nb : Nm K mg := ⟨He.free_ok X G (c.fact 10 rfl),
    He.free_ok X G (c.fact 11 rfl),
    He.free_ok X G (c.fact 12 rfl),
    He.free_ok X G (c.fact 13 rfl),
    He.free_ok X G (c.fact 14 rfl),
    He.free_ok X G (c.fact 15 rfl),
    He.free_ok X G (c.fact 16 rfl),
    He.free_ok X G (c.fact 17 rfl),
    He.free_ok X G (c.fact 18 rfl),
    He.free_ok X G (c.fact 19 rfl),
    digK_ok x0⟩
  have e := hfa.symm.trans m_law
  cases e
  have b := FunD.bindsA (ps := ["script"]) F_law fun _ _ _ _ _ _ us hl => match us, hl with | [_], _ => rfl
  refine ⟨fd_law, fun s v => b s [v] rfl, fun base _ _ tbh => ?_⟩
  have TB : ∀ q, q ∈ lamsL → LamX.TabB base mg (codeAt K (glAd q K)) (tabAt K q) := fun q hq => tbh _ (List.mem_map.mpr ⟨q, hq, rfl⟩)
  have lamN := l.nd
  have c_units := ok_units (P := P) (w := w) (base := base) F_units m_units nb
  have c_by_units := ok_by_units (P := P) (w := w) (base := base) F_by_units m_by_units nb TB lamN c_units
  have c_by_points := ok_by_points (P := P) (w := w) (base := base) F_by_points m_by_points nb TB lamN
  have c__law_cell := ok__law_cell (P := P) (w := w) (base := base) F__law_cell m__law_cell nb
  have c__law_numbers := ok__law_numbers (P := P) (w := w) (base := base) F__law_numbers m__law_numbers nb
  have c__law_state := ok__law_state (P := P) (w := w) (base := base) F__law_state m__law_state nb c__law_cell c__law_numbers
  have c__law_next := ok__law_next (P := P) (w := w) (base := base) F__law_next m__law_next nb
  have c__law_units := ok__law_units (P := P) (w := w) (base := base) F__law_units m__law_units nb
  have c__law_less := ok__law_less (P := P) (w := w) (base := base) F__law_less m__law_less nb
  exact ok_law F_law nb c_units c_by_units c_by_points c__law_state c__law_next c__law_units c__law_less
end Fa
open PySem PySem.W PySem.Calls PyProof.Rows
theorem PySem.Challenge.cw_formsalike_k09_orders_holds : PySem.Challenge.rw_formsalike_k09_orders.Holds := by
  w_on; o_law
  refine HandSHeadRun.head_any (r := OpenLaw.row PySem.Challenge.rw_formsalike_k09_orders) (q := view (OpenLaw.row PySem.Challenge.rw_formsalike_k09_orders).prog [12]) (H := Fa.hk) (ob := Fa.ob) (M := 6000) (loose := Fa.loose) (d := HandSHeadRun.topDef (OpenLaw.row PySem.Challenge.rw_formsalike_k09_orders).prog 12) (kwd := []) Fa.ob_eq
    (by kernel_rfl) (fun s => by kernel_rfl) Fa.run (by kernel_rfl) (by kernel_rfl) (by kernel_rfl) (by rfl) (by first | assumption | decide +kernel) (by decide +kernel) ⟨rfl, rfl, rfl, rfl, rfl, by decide +kernel⟩ ?hw ?hc
  case hw => w_witness2
  case hc =>
    refine LamX.walk_ofTsE (l := PySem.Challenge.rw_formsalike_k09_orders) (n := 63) (k := 6) (x := "script") (CX := fun _ => L2.CX0) rfl (by decide) (by kernel_rfl) ⟨rfl, by decide, by decide⟩ ?F (fun _ _ _ _ _ z => z)
    intro w mg fa h Y G hmg0
    obtain ⟨K, KX, c, l⟩ := Y
    have hmg : mg ("law" : PySem.Str) = some (.ref fa) := by
      have e : (HandSHeadRun.topDef (OpenLaw.row PySem.Challenge.rw_formsalike_k09_orders).prog 12).name = ("law" : PySem.Str) := by kernel_rfl
      rw [← e]
      exact hmg0
    obtain ⟨fd, hb, hF⟩ := Fa.facts (P := (PySem.Challenge.rw_formsalike_k09_orders).prog) (w := w) KX G hmg c l
    exact ⟨K, KX, fd, Fa.csOf K Fa.lamsL, Fa.sp_lawT K, (fun p hp => by obtain ⟨q, hq, rfl⟩ := List.mem_map.mp hp; exact l.empty q hq), (fun p hp => by obtain ⟨q, hq, rfl⟩ := List.mem_map.mp hp; exact l.out q hq), (fun p hp => by obtain ⟨q, hq, rfl⟩ := List.mem_map.mp hp; exact PySem.W.codeHd_of_K KX (l.hd q hq)), hb, fun H a ns hl _ hH hS => ⟨_, rfl, a, ns, rfl, hS, Fa.tbs_at hH, fun _ => rfl⟩, hF⟩
