import PyProof.Rows.All
import Wide.All
import OpenK.AllK
import Wide.FinOn
import KE.KStateDown
import KE.GoesMore
import KE.GoesEnum
import HandS.Iter
import HandS.TupLe
import HandS.Deep
import KE.KEqSeq
import KE.KEqDeep
import HandS.ForMost
import HandS.Exc
import HandS.More
import HandS.Wide
import HandS.Property
import HandS.WideBits
import HandS.Conv
import HandS.Codes
import HandS.IsInst
import HandS.Flow
import HandS.Defaults
import HandS.EndBits
import HandS.Head0
import HandS.Head1
import HandS.Head2
import KE.KExcIs
import KE.SortData
import HandS.GenList
import HandS.TryOnly
import HandS.Lambda
import HandS.StrMore
import HandS.RevTup
import HandS.Rev
import KE.KIntText
import PyProof.Rows.StrFirst
import HandS.CallLocal
import HandS.AnyAll
import HandS.HeadEnd
import HandS.HeadHook1
import HandS.HeadHook2
import HandS.NoneIn
import HandS.TupAny
import HandS.Style
import HandS.SortRule
import HandS.DictTup
import HandS.TupLe
import HandS.Deep
import PySem.Challenge.RW_formsalike_k19_cbor_written
import KE.SortKeyHeap
import HandS.EndTab
import HandS.HeadHook4
import HandS.HeadWalk
import HandS.ExcOwn
import HandS.ExcInit
import HandS.ExcField
import HandS.WordsExc
set_option Elab.async false
set_option linter.all false
set_option maxRecDepth 100000
set_option maxHeartbeats 4000000
namespace Fa
open PySem PySem.Spec L2 SX
open PyProof.Rows (envOfC)
open C8 (Cal pe_c Mak pe_mk Met pe_mt pe_mt0 pe_gc tCut pss_cut)
def top (i : Nat) : Stmt := PySem.Challenge.pw_formsalike_k19_cbor_written.main.body.getD i (.Pass ⟨0, 0, 0, 0⟩)

/-! ### readings, a step each -/
section
variable {σ : St} {H : Hp} {n b c : St → Hp → Prop} {r : VK} {Q : VK} {K : PySem.W.Frag}
theorem r_seq {t u : TS} (h : t ⟨u ⟨n, r, b, c⟩, r, b, c⟩ σ H) : tSeq t u ⟨n, r, b, c⟩ σ H := h
theorem r_asg {te : TE} {g : TG} (h : te σ H fun x H1 => g x σ H1 n) : tAsg te g ⟨n, r, b, c⟩ σ H := h
theorem r_name {i : Nat} {v : V} {R : St → Hp → Prop} (h : R (σ.set i (some v)) H) : gName i v σ H R := h
theorem r_var {i : Nat} {v : V} (e : σ[i]? = some (some v)) (h : Q v H) : tVar i σ H Q := ⟨v, e, h⟩
theorem r_c {v : V} (h : Q v H) : tC v σ H Q := h
theorem r_op {r : R2} {ta tb : TE} (h : ta σ H fun x H1 => tb σ H1 fun y H2 => r x y H2 Q) : tOp r ta tb σ H Q := h
theorem r_un {r : V → Hp → VK → Prop} {ta : TE} (h : ta σ H fun x H1 => r x H1 Q) : tUn r ta σ H Q := h
theorem r_I0 {g : Int → Int → V} {i j : Int} (h : Q (g i j) H) : rI0 g (.int i) (.int j) H Q := ⟨i, j, rfl, rfl, h⟩
theorem r_I {C : Int → Int → Prop} {g : Int → Int → V} {i j : Int} (c : C i j) (h : Q (g i j) H) : rI C g (.int i) (.int j) H Q := ⟨i, j, rfl, rfl, c, h⟩
theorem r_U {g : Int → V} {i : Int} (h : Q (g i) H) : rU g (.int i) H Q := ⟨i, rfl, h⟩
theorem r_eqI {i j : Int} (h : Q (.bl (decide (i = j))) H) : rEq (.int i) (.int j) H Q := by
  have e : decide (V.int i = V.int j) = decide (i = j) := by simp
  exact ⟨rfl, by rw [e]; exact h⟩
theorem r_neI {i j : Int} (h : Q (.bl (!decide (i = j))) H) : rNe (.int i) (.int j) H Q := by
  have e : decide (V.int i = V.int j) = decide (i = j) := by simp
  exact ⟨rfl, by rw [e]; exact h⟩
theorem r_eqS {i j : Str} (h : Q (.bl (decide (i = j))) H) : rEq (.str i) (.str j) H Q := by
  have e : decide (V.str i = V.str j) = decide (i = j) := by simp
  exact ⟨rfl, by rw [e]; exact h⟩
theorem r_neS {i j : Str} (h : Q (.bl (!decide (i = j))) H) : rNe (.str i) (.str j) H Q := by
  have e : decide (V.str i = V.str j) = decide (i = j) := by simp
  exact ⟨rfl, by rw [e]; exact h⟩
theorem r_nil {R : List V → Hp → Prop} (h : R [] H) : tNil σ H R := h
theorem r_cons {te : TE} {t : TA} {R : List V → Hp → Prop} (h : te σ H fun x H1 => t σ H1 fun xs H2 => R (x :: xs) H2) : tCons te t σ H R := h
theorem r_drop {te : TE} (h : te σ H fun _ H1 => n σ H1) : tDrop te ⟨n, r, b, c⟩ σ H := h
theorem r_ret {te : TE} (h : te σ H r) : tRet te ⟨n, r, b, c⟩ σ H := h
theorem r_retN (h : r .non H) : tRetN ⟨n, r, b, c⟩ σ H := h
theorem r_next (h : n σ H) : tNext ⟨n, r, b, c⟩ σ H := h
theorem r_brk (h : b σ H) : tBreak ⟨n, r, b, c⟩ σ H := h
theorem r_if {e : TT} {t u : TS} (h : e σ H fun k H1 => if k = true then t ⟨n, r, b, c⟩ σ H1 else u ⟨n, r, b, c⟩ σ H1) : tIfS e t u ⟨n, r, b, c⟩ σ H := h
theorem r_ifE {c : TT} {ta tb : TE} (h : c σ H fun b H1 => if b = true then ta σ H1 Q else tb σ H1 Q) : tIf c ta tb σ H Q := h
theorem r_test {te : TE} {R : Bool → Hp → Prop} (h : te σ H fun x H' => ∃ k, x = .bl k ∧ R k H') : tTest te σ H R := h
theorem r_B {te : TE} {R : Bool → Hp → Prop} (h : te σ H fun x H' => ∃ k, x = .bl k ∧ R k H') : tB te σ H R := h
theorem r_bl {b : Bool} {R : Bool → Prop} (h : R b) : ∃ k, V.bl b = .bl k ∧ R k := ⟨b, rfl, h⟩
theorem r_and {t u : TT} {R : Bool → Hp → Prop} (h : t σ H fun c H1 => if c = true then u σ H1 R else R false H1) : tAnd t u σ H R := h
theorem r_or {t u : TT} {R : Bool → Hp → Prop} (h : t σ H fun c H1 => if c = true then R true H1 else u σ H1 R) : tOr t u σ H R := h
theorem r_not {t : TT} {R : Bool → Hp → Prop} (h : t σ H fun c H1 => R (!c) H1) : tNot t σ H R := h
theorem r_andV {ta tb : TE} (h : ta σ H fun x H1 => ∃ c, x = .bl c ∧ if c = true then tb σ H1 Q else Q (.bl false) H1) : tAndV ta tb σ H Q := h
theorem r_orV {ta tb : TE} (h : ta σ H fun x H1 => ∃ c, x = .bl c ∧ if c = true then Q (.bl true) H1 else tb σ H1 Q) : tOrV ta tb σ H Q := h
theorem r_notV {ta : TE} (h : ta σ H fun x H1 => ∃ c, x = .bl c ∧ Q (.bl (!c)) H1) : tNotV ta σ H Q := h
theorem r_chain {r r' : R2} {ta tb tc : TE} (h : ta σ H fun x H1 => tb σ H1 fun y H2 => r x y H2 fun z H3 => ∃ k, z = .bl k ∧ (if k = true then tc σ H3 fun w' H4 => r' y w' H4 Q else Q (.bl false) H3)) : tChain r r' ta tb tc σ H Q := h
theorem r_tup {t : TA} (h : t σ H fun xs H1 => xs.length ≤ sizeLine ∧ ∀ p, H1 p = none → Q (.ref p) (upd H1 p (.tup xs))) : tTup t σ H Q := h
theorem r_lst {t : TA} (h : t σ H fun xs H1 => xs.length ≤ sizeLine ∧ ∀ p, H1 p = none → Q (.ref p) (upd H1 p (.lst xs))) : tLst t σ H Q := h
theorem r_call {sp : Sp} {dvs : List V} {E : XK} {t : TA} (h : t σ H fun vs H1 => sp (vs ++ dvs) H1 Q E) : tCall sp dvs E t σ H Q := h
theorem r_CB {r : List V → Hp → VK → Prop} {t : TA} (h : t σ H fun vs H1 => r vs H1 Q) : tCB r t σ H Q := h
theorem r_ixL {p : Addr} {xs : List V} {i : Int} {v : V} (hs : SqL K H p xs) (e : atI xs i = some v) (h : Q v H) : rIxL K (.ref p) (.int i) H Q := ⟨p, xs, i, v, rfl, rfl, hs, e, h⟩
theorem r_ixT {p : Addr} {xs : List V} {i : Int} {v : V} (hs : SqT K H p xs) (e : atI xs i = some v) (h : Q v H) : rIxT K (.ref p) (.int i) H Q := ⟨p, xs, i, v, rfl, rfl, hs, e, h⟩
theorem r_ite {p : Prop} [Decidable p] {A B : Prop} (h1 : p → A) (h2 : ¬ p → B) : if decide p = true then A else B := by
  by_cases c : p
  · rw [if_pos (decide_eq_true c)]
    exact h1 c
  · rw [if_neg (by simp [c])]
    exact h2 c
theorem r_iten {p : Prop} [Decidable p] {A B : Prop} (h1 : ¬ p → A) (h2 : p → B) : if (!decide p) = true then A else B := by
  by_cases c : p
  · rw [if_neg (by simp [c])]
    exact h2 c
  · rw [if_pos (by simp [c])]
    exact h1 c
theorem r_itep {p : Prop} [Decidable p] {A B : Prop} (c : p) (h : A) : if decide p = true then A else B := by
  rw [if_pos (decide_eq_true c)]
  exact h
theorem r_iteN {p : Prop} [Decidable p] {A B : Prop} (c : ¬ p) (h : B) : if decide p = true then A else B := by
  rw [if_neg (by simp [c])]
  exact h
theorem r_iteF {A B : Prop} (h : B) : if false = true then A else B := by
  rw [if_neg Bool.false_ne_true]
  exact h
theorem r_iteT {A B : Prop} (h : A) : if true = true then A else B := by
  rw [if_pos rfl]
  exact h
theorem r_iteNT {A B : Prop} (h : B) : if (!true) = true then A else B := by
  rw [if_neg (by decide)]
  exact h
theorem r_iteNF {A B : Prop} (h : A) : if (!false) = true then A else B := by
  rw [if_pos (by decide)]
  exact h
theorem r_no {p : Prop} [Decidable p] {A B : Prop} (c : p) (h : B) : if (!decide p) = true then A else B := by
  rw [if_neg (by simp [c])]
  exact h
/-- a for over a written range(m) -/
theorem r_forN {v : Int} {g : TG} {tb : TS} (m : Nat) (e : v = (m : Int)) (hn : m < 2 ^ 62) (Pv : Nat → St → Hp → Prop) (h0 : Pv 0 σ H)
    (hs : ∀ (i : Nat) σ H, i < m → Pv i σ H → g (.int (i : Int)) σ H fun σ2 H2 => tb ⟨Pv (i + 1), r, n, Pv (i + 1)⟩ σ2 H2) (hd : ∀ σ H, Pv m σ H → n σ H) : tFor (iRng1 (tCons (tC (.int v)) tNil)) g tb ⟨n, r, b, c⟩ σ H := by
  subst e
  refine ⟨(m : Int), rfl, by omega, by omega, for_range Pv h0 (fun i σ H hi p => ?_) hd⟩
  rw [Int.zero_add]
  exact hs i σ H (by omega) p
/-- a for over range(v), v in a slot -/
theorem r_forV {v : Int} {k : Nat} {g : TG} {tb : TS} (e : σ[k]? = some (some (.int v))) (h1 : -(2 ^ 62) ≤ v) (h2 : v < 2 ^ 62) (Pv : Nat → St → Hp → Prop) (h0 : Pv 0 σ H)
    (hs : ∀ (i : Nat) σ H, (i : Int) < v → Pv i σ H → g (.int (i : Int)) σ H fun σ2 H2 => tb ⟨Pv (i + 1), r, n, Pv (i + 1)⟩ σ2 H2) (hd : ∀ σ H, Pv v.toNat σ H → n σ H) : tFor (iRng1 (tCons (tVar k) tNil)) g tb ⟨n, r, b, c⟩ σ H := by
  refine ⟨_, e, v, rfl, h1, h2, for_range Pv h0 (fun i σ H hi p => ?_) hd⟩
  rw [Int.zero_add]
  exact hs i σ H (by omega) p
/-- a for over range(e), the turns behind its reading -/
theorem r_for {wi : TI} {g : TG} {tb : TS} (h : wi σ H fun J H1 => ∃ W : Nat → Nat → St → Hp → Prop, (∃ m, W 0 m σ H1) ∧ ∀ i m σ H, W i m σ H →
    (J.stop i H ∧ n σ H) ∨ (J.go i H ∧ ∃ N : St → Hp → Prop, (∀ σ' H', N σ' H' → ∃ m', m' < m ∧ W (i + 1) m' σ' H') ∧ ∀ x H', J.yld i H x H' → g x σ H' fun σ2 H2 => tb ⟨N, r, n, N⟩ σ2 H2)) : tFor wi g tb ⟨n, r, b, c⟩ σ H := h
theorem r_rng1 {ta : TA} {R : It → Hp → Prop} (h : ta σ H fun vs H1 => ∃ j : Int, vs = [.int j] ∧ -(2 ^ 62) ≤ j ∧ j < 2 ^ 62 ∧ R (Itr 0 j.toNat) H1) : iRng1 ta σ H R := h
/-- .. the turns -/
theorem r_turns {j : Int} {g : TG} {tb : TS} (h1 : -(2 ^ 62) ≤ j) (h2 : j < 2 ^ 62) (Pv : Nat → St → Hp → Prop) (h0 : Pv 0 σ H)
    (hs : ∀ (i : Nat) σ H, (i : Int) < j → Pv i σ H → g (.int (i : Int)) σ H fun σ2 H2 => tb ⟨Pv (i + 1), r, n, Pv (i + 1)⟩ σ2 H2) (hd : ∀ σ H, Pv j.toNat σ H → n σ H) :
    -(2 ^ 62) ≤ j ∧ j < 2 ^ 62 ∧ ∃ W : Nat → Nat → St → Hp → Prop, (∃ m, W 0 m σ H) ∧ ∀ i m σ H, W i m σ H →
    ((Itr 0 j.toNat).stop i H ∧ n σ H) ∨ ((Itr 0 j.toNat).go i H ∧ ∃ N : St → Hp → Prop, (∀ σ' H', N σ' H' → ∃ m', m' < m ∧ W (i + 1) m' σ' H') ∧ ∀ x H', (Itr 0 j.toNat).yld i H x H' → g x σ H' fun σ2 H2 => tb ⟨N, r, n, N⟩ σ2 H2) := by
  refine ⟨h1, h2, for_range (D := ⟨n, r, fun _ _ => False, fun _ _ => False⟩) Pv h0 (fun i σ H hi p => ?_) hd⟩
  rw [Int.zero_add]
  exact hs i σ H (by omega) p
theorem r_while {e : TT} {tb : TS} (W : Nat → St → Hp → Prop) (m : Nat) (h0 : W m σ H)
    (hs : ∀ m σ H, W m σ H → e σ H fun k H1 => if k = true then ∃ N : St → Hp → Prop, (∀ σ' H', N σ' H' → ∃ m', m' < m ∧ W m' σ' H') ∧ tb ⟨N, r, n, N⟩ σ H1 else n σ H1) : tWhile e tb ⟨n, r, b, c⟩ σ H := ⟨W, ⟨m, h0⟩, hs⟩
theorem r_turn {tb : TS} {W : Nat → St → Hp → Prop} {m : Nat} (h : tb ⟨fun σ' H' => ∃ m', m' < m ∧ W m' σ' H', r, n, fun σ' H' => ∃ m', m' < m ∧ W m' σ' H'⟩ σ H) :
    ∃ N : St → Hp → Prop, (∀ σ' H', N σ' H' → ∃ m', m' < m ∧ W m' σ' H') ∧ tb ⟨N, r, n, N⟩ σ H := ⟨_, fun _ _ h => h, h⟩
end
/-! ### promises by the number of arguments -/
def sp1 (f : V → Hp → VK → XK → Prop) : Sp := fun vs H Q E => ∃ a, vs = [a] ∧ f a H Q E
def sp2 (f : V → V → Hp → VK → XK → Prop) : Sp := fun vs H Q E => ∃ a b, vs = [a, b] ∧ f a b H Q E
def sp3 (f : V → V → V → Hp → VK → XK → Prop) : Sp := fun vs H Q E => ∃ a b c, vs = [a, b, c] ∧ f a b c H Q E
def sp4 (f : V → V → V → V → Hp → VK → XK → Prop) : Sp := fun vs H Q E => ∃ a b c d, vs = [a, b, c, d] ∧ f a b c d H Q E
def sp5 (f : V → V → V → V → V → Hp → VK → XK → Prop) : Sp := fun vs H Q E => ∃ a b c d e, vs = [a, b, c, d, e] ∧ f a b c d e H Q E
def sp6 (f : V → V → V → V → V → V → Hp → VK → XK → Prop) : Sp := fun vs H Q E => ∃ a b c d e g, vs = [a, b, c, d, e, g] ∧ f a b c d e g H Q E
theorem len5 {f} (vs : List V) (H : Hp) (Q : VK) (E : XK) (h : sp5 f vs H Q E) : vs.length = 5 := by
  obtain ⟨_, _, _, _, _, rfl, _⟩ := h
  rfl
theorem len6 {f} (vs : List V) (H : Hp) (Q : VK) (E : XK) (h : sp6 f vs H Q E) : vs.length = 6 := by
  obtain ⟨_, _, _, _, _, _, rfl, _⟩ := h
  rfl
theorem len1 {f} (vs : List V) (H : Hp) (Q : VK) (E : XK) (h : sp1 f vs H Q E) : vs.length = 1 := by
  obtain ⟨_, rfl, _⟩ := h
  rfl
theorem len2 {f} (vs : List V) (H : Hp) (Q : VK) (E : XK) (h : sp2 f vs H Q E) : vs.length = 2 := by
  obtain ⟨_, _, rfl, _⟩ := h
  rfl
theorem len3 {f} (vs : List V) (H : Hp) (Q : VK) (E : XK) (h : sp3 f vs H Q E) : vs.length = 3 := by
  obtain ⟨_, _, _, rfl, _⟩ := h
  rfl
theorem len4 {f} (vs : List V) (H : Hp) (Q : VK) (E : XK) (h : sp4 f vs H Q E) : vs.length = 4 := by
  obtain ⟨_, _, _, _, rfl, _⟩ := h
  rfl
/-- a def's promise from its body -/
theorem calD {P : Program} {w : World} {K : PySem.W.Frag} {mg : Str → Option Value} {base : Heap} {x qual : Str} {params : Arguments} {body : List Stmt} {scope : Scope} {f : Addr} {fd : FuncData} {N ps : List Str} {k : Nat} {sp : Sp}
    (F : FunD K x qual params body scope [] [] f fd) (m : mg x = some (.ref f)) (S : FnScope N ps scope)
    (hb : ∀ (kV doc pm : Value) (an : Option Addr) (cdv ct : Value) (us : List Value), us.length = ps.length → bindArgs (PySem.W.fnOf x qual params body scope .none kV doc pm an cdv ct) ⟨us, []⟩ = pure (ps.zip us))
    (len : ∀ vs H Q E, sp vs H Q E → vs.length = ps.length)
    (hbody : ∀ (cdv : Value) (A : Around) (outer : List Env) (s : Shared) (H : Hp) (vs : List V) (Q : VK) (E : XK), Room k (A.deeper (envOfC qual scope s.heap.objs.size f cdv)) → sp vs H Q E →
      ∃ t, PSs (cxOf CX0 P w K mg base N qual scope f cdv A outer s H E).nox body t ∧ t { nx := fun _ H' => Q .non H', rt := Q } (start N vs) H) : Cal P w K mg base (k + 1) x sp [] :=
  ⟨f, fd, ps, [], F.ok S len fun cdv A outer s H vs Q E hr h => by
    obtain ⟨t, h1, h2⟩ := hbody cdv A outer s H vs Q E hr h
    exact ⟨t, h1.nox, h2⟩, m, F.kp, F.bindsN hb, .nil⟩
theorem fnD {P : Program} {w : World} {K : PySem.W.Frag} {mg : Str → Option Value} {base : Heap} {x qual : Str} {params : Arguments} {body : List Stmt} {scope : Scope} {f : Addr} {fd : FuncData} {N ps : List Str} {k : Nat} {sp : Sp}
    (F : FunD K x qual params body scope [] [] f fd) (S : FnScope N ps scope) (len : ∀ vs H Q E, sp vs H Q E → vs.length = ps.length)
    (hbody : ∀ (cdv : Value) (A : Around) (outer : List Env) (s : Shared) (H : Hp) (vs : List V) (Q : VK) (E : XK), Room k (A.deeper (envOfC qual scope s.heap.objs.size f cdv)) → sp vs H Q E →
      ∃ t, PSs (cxOf CX0 P w K mg base N qual scope f cdv A outer s H E).nox body t ∧ t { nx := fun _ H' => Q .non H', rt := Q } (start N vs) H) : FnOk P w K mg base CX0 (k + 1) f fd ps sp :=
  F.ok S len fun cdv A outer s H vs Q E hr h => by
    obtain ⟨t, h1, h2⟩ := hbody cdv A outer s H vs Q E hr h
    exact ⟨t, h1.nox, h2⟩
theorem conI {K : PySem.W.Frag} {h : Heap} {mg : Str → Option Value} {x : Str} {i : Int} (X : K.In h) (G : h.Ns mainGlobals mg) (c : (He.Fa.int x i).ok K = true) : ∃ u, mg x = some u ∧ RelV (.int i) u := by
  obtain ⟨t, e⟩ := He.int_ok X G c
  exact ⟨_, e, t, rfl⟩
theorem conS {K : PySem.W.Frag} {h : Heap} {mg : Str → Option Value} {x z : Str} (X : K.In h) (G : h.Ns mainGlobals mg) (c : (He.Fa.str x z).ok K = true) : ∃ u, mg x = some u ∧ RelV (.str z) u := by
  obtain ⟨t, e⟩ := He.str_ok X G c
  exact ⟨_, e, t, rfl⟩

/-! ### more readings -/
section
variable {σ : St} {H : Hp} {n b c : St → Hp → Prop} {r : VK} {Q : VK}
theorem r_cut {t u : TS} (Mid : St → Hp → Prop) (h1 : t ⟨Mid, r, b, c⟩ σ H) (h2 : ∀ σ' H', Mid σ' H' → u ⟨n, r, b, c⟩ σ' H') : tCut t u ⟨n, r, b, c⟩ σ H := ⟨Mid, h1, h2⟩
end
section
variable {σ : St} {H : Hp} {Q : VK} {K : PySem.W.Frag}
theorem r_yes {R : Bool → Hp → Prop} (h : R true H) : tYes σ H R := h
theorem r_isi {x : V} {c d : String} {b : Bool} (t : TyX K H x (.type d)) (e : kitB d c = some b) (h : Q (.bl b) H) : rIsi K [x, .ty c] H Q := ⟨x, .ty c, .type d, .type c, b, rfl, .ty c, t, kit_ty e, h⟩
theorem r_neD {x y : V} {d e : PyData} (h1 : Dp K H x d) (h2 : Dp K H y e) (s1 : SeqAt.shaped d = true) (s2 : SeqAt.shaped e = true) (h : Q (.bl (!PyData.eqv d e)) H) : rNeD K x y H Q := ⟨d, e, h1, h2, s1, s2, h⟩
theorem r_eqD {x y : V} {d e : PyData} (h1 : Dp K H x d) (h2 : Dp K H y e) (s1 : SeqAt.shaped d = true) (s2 : SeqAt.shaped e = true) (h : Q (.bl (PyData.eqv d e)) H) : rEqD K x y H Q := ⟨d, e, h1, h2, s1, s2, h⟩
theorem eqv_same {d : PyData} (s : SeqAt.shaped d = true) : PyData.eqv d d = true := SeqAt.eqv_refl d (Bool.and_eq_true_iff.mp s).1
/-- the same data on both sides -/
theorem r_neDs {x y : V} {d : PyData} (h1 : Dp K H x d) (h2 : Dp K H y d) (s : SeqAt.shaped d = true) (h : Q (.bl false) H) : rNeD K x y H Q := r_neD h1 h2 s s (by rw [eqv_same s]; exact h)
theorem r_eqDs {x y : V} {d : PyData} (h1 : Dp K H x d) (h2 : Dp K H y d) (s : SeqAt.shaped d = true) (h : Q (.bl true) H) : rEqD K x y H Q := r_eqD h1 h2 s s (by rw [eqv_same s]; exact h)
theorem r_rfl {v : V} {B : Prop} (h : B) : v = v ∧ B := ⟨rfl, h⟩
theorem r_gtup {p : Addr} {xs : List V} {n : Nat} {t : TGs} {R : St → Hp → Prop} (hs : SqT K H p xs) (hl : xs.length = n) (h : t xs σ H R) : gTup K n t (.ref p) σ H R := ⟨p, xs, rfl, hs, hl, h⟩
theorem r_gcons {t : TG} {u : TGs} {v : V} {vs : List V} {R : St → Hp → Prop} (h : t v σ H fun σ' H' => u vs σ' H' R) : gCons t u (v :: vs) σ H R := ⟨v, vs, rfl, h⟩
theorem r_gnil {R : St → Hp → Prop} (h : R σ H) : gNil [] σ H R := ⟨rfl, h⟩
theorem r_iteC {p : Prop} [Decidable p] {a b : Int} (h : Q (.int (if p then a else b)) H) : if decide p = true then tC (.int a) σ H Q else tC (.int b) σ H Q := by
  by_cases c : p
  · rw [if_pos (decide_eq_true c)]
    rw [if_pos c] at h
    exact h
  · rw [if_neg (by simp [c])]
    rw [if_neg c] at h
    exact h
theorem r_iteJ {p : Prop} [Decidable p] {ta tb : TE} (v : V) (h1 : p → ∀ R : VK, R v H → ta σ H R) (h2 : ¬ p → ∀ R : VK, R v H → tb σ H R) (h : Q v H) : if decide p = true then ta σ H Q else tb σ H Q := by
  by_cases c : p
  · rw [if_pos (decide_eq_true c)]
    exact h1 c Q h
  · rw [if_neg (by simp [c])]
    exact h2 c Q h
theorem r_max2 {p : Addr} {x y : Int} (hs : H p = some (.lst [.int x, .int y])) (h : Q (.int (max x y)) H) : rMax K [.ref p] H Q := by
  refine ⟨p, [x, y], rfl, SqL.of hs, by show 0 < 2; decide, fun m hm hle => ?_⟩
  have h1 := hle x (by simp)
  have h2 := hle y (by simp)
  have e : m = max x y := by
    rcases List.mem_cons.mp hm with e | e
    · omega
    · rcases List.mem_cons.mp e with e | e
      · omega
      · cases e
  rw [e]
  exact h
theorem r_lam1 {x : V} {R : V → Prop} (h : R x) : ∃ i, [x] = [i] ∧ R i := ⟨x, rfl, h⟩
theorem r_abs {x : Int} {R : Int → Prop} (h : R x) : ∃ i, [V.int x] = [V.int i] ∧ R i := ⟨x, rfl, h⟩
theorem r_int1 {x : Int} {R : Int → Prop} {B : Prop} (h : R x) : (∃ i, [V.int x] = [V.int i] ∧ R i) ∨ B := .inl ⟨x, rfl, h⟩
theorem r_bm {T : String} {r : V → List V → Hp → VK → Prop} {to : TE} {t : TA} (h : to σ H fun x H1 => tyV K T x H1 ∧ t σ H1 fun xs H2 => r x xs H2 Q) : tBM K T r to t σ H Q := h
theorem r_bm0 {T : String} {r : V → List V → Hp → VK → Prop} {to : TE} (h : to σ H fun x H1 => tyV K T x H1 ∧ r x [] H1 Q) : tBM0 K T r to σ H Q := h
theorem tyL {p : Addr} {xs : List V} (h : H p = some (.lst xs)) : tyV K "list" (.ref p) H := Or.inl ⟨rfl, _, SqL.of h⟩
theorem r_app {p : Addr} {xs : List V} {y : V} (h : H p = some (.lst xs)) (hl : xs.length < sizeLine) (q : Q .non (upd H p (.lst (xs ++ [y])))) : rAppend (.ref p) [y] H Q := ⟨p, xs, y, rfl, rfl, h, hl, q⟩
theorem r_sub {to ti : TE} {t : TSet} {v : V} {R : St → Hp → Prop} (h : to σ H fun o H1 => ti σ H1 fun i H2 => t o i v H2 fun H3 => R σ H3) : gSub to ti t v σ H R := h
theorem r_setL {p : Addr} {xs : List V} {k : Int} {j : Nat} {v : V} {R : Hp → Prop} (h : H p = some (.lst xs)) (e : ixN xs.length k = some j) (q : R (upd H p (.lst (xs.set j v)))) : rSetL (.ref p) (.int k) v H R := ⟨p, xs, k, j, rfl, rfl, h, e, q⟩
theorem r_lcR {ta : TA} {g : TG} {tt : TT} {te : TE} {vs : List Nat} (n : Nat) (hn : n < 2 ^ 62)
    (h : ∀ D, H D = none → ∃ W : Nat → Nat → Hp → Prop, (∃ m, W 0 m (upd H D (.lst []))) ∧ ∀ i m H, W i m H →
      ((Itr 0 n).stop i H ∧ Q (.ref D) H) ∨ ((Itr 0 n).go i H ∧ ∃ Nx : Hp → Prop, (∀ H', Nx H' → ∃ m', m' < m ∧ W (i + 1) m' H') ∧ ∀ x H', (Itr 0 n).yld i H x H' → g x (wipe σ vs) H' fun σ2 H2 => wipe σ2 vs = wipe σ vs ∧ tt σ2 H2 fun b H3 =>
        if b = true then te σ2 H3 fun y H4 => ∃ acc, H4 D = some (.lst acc) ∧ acc.length < sizeLine ∧ Nx (upd H4 D (.lst (acc ++ [y]))) else Nx H3))
    (he : ∀ R : List V → Hp → Prop, R [.int (n : Int)] H → ta σ H R) : tLc (iRng1 ta) g tt te vs σ H Q := by
  refine he _ ⟨(n : Int), rfl, by omega, by omega, ?_⟩
  have e : ((n : Int)).toNat = n := by omega
  rw [e]
  exact h
theorem same_upd {H : Hp} {p : Addr} (h : H p = none) (o : HO) : Same H (upd H p o) := fun b u q => by
  rw [upd_ne (ne_of_none q h)]
  exact q
theorem seq_upd {p b : Addr} {xs : List V} {o : HO} (h : SqL K H b xs) (hn : b ≠ p) : SqL K (upd H p o) b xs := by
  rcases h with (h | ⟨u, h⟩) | h
  · exact .inl (.inl ((upd_ne hn).trans h))
  · exact .inl (.inr ⟨u, (upd_ne hn).trans h⟩)
  · exact .inr h
theorem atI_ints {ns : List Int} {k : Int} (h0 : 0 ≤ k) (h1 : k < (ns.length : Int)) : ∃ v, v ∈ ns ∧ atI (ns.map V.int) k = some (.int v) := by
  have hk : k.toNat < ns.length := by omega
  have ek : k = ((k.toNat : Nat) : Int) := by omega
  have q : atI (ns.map V.int) ((k.toNat : Nat) : Int) = some (.int ns[k.toNat]) := atI_nat (by rw [List.getElem?_map, List.getElem?_eq_getElem hk] <;> rfl)
  rw [← ek] at q
  exact ⟨ns[k.toNat], List.getElem_mem hk, q⟩
end

/-! ### what the program's top leaves, looked at: its defs by their addresses, facts, written data; the statics too -/
abbrev Frg := PySem.W.Frag
/-- the getter of a property of a class -/
def prAd (C f : Str) (K : Frg) : Addr := match PySem.W.recIn K (He.ma K (He.ga K C) f) "property" with
  | some (.ref g :: _) => g
  | _ => 0
def glAd (x : Str) (K : Frg) : Addr := He.ga K x
def meAd (C m : Str) (K : Frg) : Addr := He.ma K (He.ga K C) m
structure DefM where
  ad : Frg → Addr
  nm : Str
  ql : Str
  pa : Arguments
  bo : List Stmt
  sc : Scope
  df : List He.Dv := []
def seeM (K : Frg) (d : DefM) : He.FnW := match K.lookup (d.ad K) with
  | some ⟨_, _, .func u, _⟩ => some (u.name, u.qualname, u.params, u.body, u.scope, u.globals, u.closure, u.builtins)
  | _ => none
def dueM (d : DefM) : He.FnW := some (d.nm, d.ql, d.pa, .stmts d.bo, d.sc, mainGlobals, [], builtinsNs)
def okM (K : Frg) (d : DefM) : Bool := PySem.W.keepIn K (.ref (d.ad K)) && (match K.lookup (d.ad K) with
  | some ⟨_, _, .func u, _⟩ => PySem.W.codeIn K u.code d.ql && He.dflB K u.defaults (d.df.map (He.Dv.v K))
  | _ => false)
theorem both {a b : Bool} (h : (a && b) = true) : a = true ∧ b = true := Bool.and_eq_true_iff.mp h
theorem funM {K : Frg} {d : DefM} (e : seeM K d = dueM d) (c : okM K d = true) : ∃ fd, FunD K d.nm d.ql d.pa d.bo d.sc (d.df.map (He.Dv.v K)) [] (d.ad K) fd := by
  have kp := (both c).1
  have c2 := (both c).2
  unfold seeM dueM at e
  split at c2
  · rename_i x1 x2 u x3 hL
    rw [hL] at e
    obtain ⟨n1, n2, n3, n4, n5, n6, n7, n8, n9, n10, n11, n12, n13, n14, n15⟩ := u
    simp only [Option.some.injEq, Prod.mk.injEq] at e
    obtain ⟨h1, h2, h3, h4, h5, h6, h7, h8⟩ := e
    subst h1 h2 h3 h4 h5 h6 h7 h8
    have k := both c2
    exact ⟨_, ⟨x1, x2, n8, n9, n10, n11, n12, n13, n14, x3, rfl, hL, k.1, He.dflB_ok k.2, .inl rfl⟩, kp⟩
  · cases c2
/-- written data: none, truths, integers, texts, lists and tuples of them -/
def datB (K : Frg) : Nat → Value → PyData → Bool
  | 0, _, _ => false
  | n + 1, u, d => match u, d with
    | .none, .none => true
    | .bool b, .bool c => b == c
    | .int i _, .int j => decide (i = j)
    | .str x _, .str y => decide (x = y)
    | .ref a, .tuple ds => (match K.lookup a with
      | some ⟨.type c, _, .seq its _, _⟩ => decide (c = "tuple") && (decide (its.size ≤ sizeLine) && datAll (fun u d => datB K n u d) its.toList ds)
      | _ => false)
    | _, _ => false
where datAll (f : Value → PyData → Bool) : List Value → List PyData → Bool
  | [], [] => true
  | u :: us, d :: ds => f u d && datAll f us ds
  | _, _ => false
theorem datAll_ok {K : Frg} {f : Value → PyData → Bool} (hf : ∀ u d, f u d = true → ∃ x, RelV x u ∧ ∀ H, Dp K H x d) : ∀ (us : List Value) (ds : List PyData), datB.datAll f us ds = true → ∃ xs, Vals xs us ∧ ∀ H, DpAll K H xs ds
  | [], [], _ => ⟨[], .nil, fun _ => .nil⟩
  | u :: us, d :: ds, h => by
    unfold datB.datAll at h
    obtain ⟨x, r, k⟩ := hf u d (both h).1
    obtain ⟨xs, rs, ks⟩ := datAll_ok hf us ds (both h).2
    exact ⟨x :: xs, .cons r rs, fun H => .cons (k H) (ks H)⟩
  | [], _ :: _, h => by cases h
  | _ :: _, [], h => by cases h
theorem datB_ok {K : Frg} : ∀ (n : Nat) (u : Value) (d : PyData), datB K n u d = true → ∃ x, RelV x u ∧ ∀ H, Dp K H x d
  | 0, _, _, h => by cases h
  | n + 1, u, d, h => by
    unfold datB at h
    match u, d, h with
    | .none, .none, _ => exact ⟨.non, rfl, fun _ => .non⟩
    | .bool b, .bool c, h =>
      have e : b = c := eq_of_beq h
      subst e
      exact ⟨.bl b, rfl, fun _ => .bl b⟩
    | .int i t, .int j, h =>
      have e : i = j := of_decide_eq_true h
      subst e
      exact ⟨.int i, ⟨t, rfl⟩, fun _ => .int i⟩
    | .str x t, .str y, h =>
      have e : x = y := of_decide_eq_true h
      subst e
      exact ⟨.str x, ⟨t, rfl⟩, fun _ => .str x⟩
    | .ref a, .tuple ds, h =>
      have h' : (match K.lookup a with
        | some ⟨.type c, _, .seq its _, _⟩ => decide (c = "tuple") && (decide (its.size ≤ sizeLine) && datB.datAll (fun u d => datB K n u d) its.toList ds)
        | _ => false) = true := h
      split at h'
      · rename_i c x2 its m x3 hL
        have h1 := (both h').1
        have h2 := (both (both h').2).1
        obtain ⟨xs, rs, ks⟩ := datAll_ok (datB_ok n) its.toList ds (both (both h').2).2
        exact ⟨.ref a, rfl, fun H => .tup (.inr ⟨_, its, m, hL, congrArg Value.type (of_decide_eq_true h1), rfl, of_decide_eq_true h2, rs⟩) (ks H)⟩
      · cases h'
/-- a name of the module that stands for such data -/
def conB (K : Frg) (x : Str) (d : PyData) : Bool := match PySem.W.nsIn K mainGlobals x with
  | some (some u) => datB K 8 u d
  | _ => false
theorem conM {K : Frg} {h : Heap} {mg : Str → Option Value} {x : Str} {d : PyData} (X : K.In h) (G : h.Ns mainGlobals mg) (c : conB K x d = true) : ∃ v u, mg x = some u ∧ RelV v u ∧ ∀ H, Dp K H v d := by
  unfold conB at c
  split at c
  · rename_i u hL
    obtain ⟨v, r, k⟩ := datB_ok 8 u d c
    exact ⟨v, u, PySem.W.mg_of X G hL, r, k⟩
  · cases c
/-- a property of a class -/
def prB (K : Frg) (C f : Str) : Bool := He.eqO (PySem.W.findIn K (.ref (He.ga K C)) f) (some (some (.ref (He.ma K (He.ga K C) f)))) &&
  (He.eqO (PySem.W.specialIn K (.ref (He.ma K (He.ga K C) f)) "__get__") (some (some (.builtin "property.__get__"))) && (decide (PySem.W.takesIn K (.ref (He.ma K (He.ga K C) f)) = some true) &&
  (match PySem.W.recIn K (He.ma K (He.ga K C) f) "property" with
    | some (.ref _ :: _) => true
    | _ => false)))
theorem prM {K : Frg} {C f : Str} (h : prB K C f = true) : PropOf K (He.ga K C) f (He.ma K (He.ga K C) f) (prAd C f K) := by
  obtain ⟨h1, h⟩ := both h
  obtain ⟨h2, h⟩ := both h
  obtain ⟨h3, h4⟩ := both h
  refine ⟨He.eqO_ok h1, He.eqO_ok h2, of_decide_eq_true h3, ?_⟩
  unfold prAd
  split at h4
  · rename_i g r hL
    rw [hL]
    exact ⟨r, rfl⟩
  · cases h4
/-- no limit of digits is set -/
def digB (K : Frg) : Bool := PySem.W.nsOkIn K cStatics && He.eqO (PySem.W.nsIn K cStatics "sys.int_max_str_digits") (some none)
def DigK (K : Frg) : Prop := PySem.W.nsOkIn K cStatics = true ∧ PySem.W.nsIn K cStatics "sys.int_max_str_digits" = some none
theorem digK_ok {K : Frg} (h : digB K = true) : DigK K := ⟨(both h).1, He.eqO_ok (both h).2⟩
/-! the Hook -/
abbrev AlM : Type := Bool × List He.FnW
def frM (n : Nat) (g : Addr → Option Obj) : Frg := He.frG g (cStatics :: He.asD g n)
def obsM (fa : List He.Fa) (ex : Frg → Bool) (fn : List DefM) (K : Frg) : AlM := ((fa.all fun x => x.ok K) && (ex K && fn.all fun d => okM K d), fn.map fun d => seeM K d)
def valM (fn : List DefM) : AlM := (true, fn.map dueM)
def SaysM (fa : List He.Fa) (ex : Frg → Bool) (fn : List DefM) (K : Frg) : Prop := obsM fa ex fn K = valM fn
def hookM (n : Nat) (fa : List He.Fa) (ex : Frg → Bool) (fn : List DefM) : PySem.W.Hook where
  α := AlM
  obs := fun s => obsM fa ex fn (frM n s.heap.get?)
  val := fun _ => valM fn
  says := fun _ h => ∃ K : Frg, K.In h ∧ SaysM fa ex fn K
  of := fun _ _ e => ⟨_, He.frG_in, e⟩
  keeps := fun _ _ _ ⟨K, hK, c⟩ k => ⟨K, PySem.W.Frag.In.keeps hK k, c⟩
theorem obsM_eq {n : Nat} {fa : List He.Fa} {ex : Frg → Bool} {fn : List DefM} {g : Addr → Option Obj} {s : Shared} (h : ∀ a, g a = s.heap.get? a) : obsM fa ex fn (frM n g) = (hookM n fa ex fn).obs s := by
  have e : g = s.heap.get? := funext h
  subst e
  rfl
section
variable {fa : List He.Fa} {ex : Frg → Bool} {fn : List DefM} {K : Frg}
theorem SaysM.fact (c : SaysM fa ex fn K) (i : Nat) {x : He.Fa} (h : fa[i]? = some x) : x.ok K = true :=
  List.all_eq_true.mp (both (congrArg Prod.fst c : ((fa.all fun x => x.ok K) && (ex K && fn.all fun d => okM K d)) = true)).1 x (List.mem_of_getElem? h)
theorem SaysM.more (c : SaysM fa ex fn K) : ex K = true := (both (both (congrArg Prod.fst c : ((fa.all fun x => x.ok K) && (ex K && fn.all fun d => okM K d)) = true)).2).1
theorem SaysM.def_ (c : SaysM fa ex fn K) (i : Nat) {d : DefM} (h : fn[i]? = some d) : ∃ fd, FunD K d.nm d.ql d.pa d.bo d.sc (d.df.map (He.Dv.v K)) [] (d.ad K) fd := by
  have c2 := (both (both (congrArg Prod.fst c : ((fa.all fun x => x.ok K) && (ex K && fn.all fun d => okM K d)) = true)).2).2
  have e2 : (fn.map fun d => seeM K d)[i]? = (fn.map dueM)[i]? := congrArg (fun z : AlM => z.2[i]?) c
  simp only [List.getElem?_map, h, Option.map_some, Option.some.injEq] at e2
  exact funM e2 (List.all_eq_true.mp c2 d (List.mem_of_getElem? h))
end

/-! ### a dict that the module's top writes: keys integers and texts -/
section
open PySem PySem.Spec PyProof.Rows L2
def TabAt (K : PySem.W.Frag) (w : World) (a : Addr) (kvs : List (Key × V)) : Prop := (a == sysModules) = false ∧ ∃ vs : List (Key × Value), KV kvs vs ∧ ∀ (P : Program) (h : Heap), K.In h → h.DictOf (mixKind P w) a vs
def tKGet (K : PySem.W.Frag) (w : World) (td ty tx : TE) : TE := fun σ H Q => td σ H fun x H1 => ∃ a kvs, x = .ref a ∧ TabAt K w a kvs ∧ ty σ H1 fun y H2 => tx σ H2 fun z H3 => ∃ k, y = kV k ∧ Q ((valV kvs k).getD z) H3
def tKIx (K : PySem.W.Frag) (w : World) (td ty : TE) : TE := fun σ H Q => td σ H fun x H1 => ty σ H1 fun y H2 => ∃ a kvs k v, x = .ref a ∧ TabAt K w a kvs ∧ y = kV k ∧ valV kvs k = some v ∧ Q v H2
def tKIn (K : PySem.W.Frag) (w : World) (ty td : TE) : TE := fun σ H Q => ty σ H fun y H1 => td σ H1 fun x H2 => ∃ a kvs k, x = .ref a ∧ TabAt K w a kvs ∧ y = kV k ∧ Q (.bl (valV kvs k).isSome) H2
section
variable {X : Cx} {o e f : Expr} {apos cpos : Pos} {td ty tx : TE}
theorem dictOf_free {P : Program} {w : World} {h : Heap} {a : Addr} {vs : List (Key × Value)} (d : h.DictOf (mixKind P w) a vs) : ∃ ob, h.get? a = some ob ∧ ob.dict = none := by
  obtain ⟨ob, _, _, h1, h2, _⟩ := d
  exact ⟨ob, h1, h2.2.1⟩
theorem pe_kget2 (ho : PE X o td) (he : PE X e ty) (hf : PE X f tx) (m : M2 X o "get" apos e f cpos) : PE X (.Call (.Attribute o "get" apos) [e, f] [] cpos) (tKGet X.K X.w td ty tx) := by
  refine ⟨fun pins s σ H Q I h => ?_⟩
  refine wpAny_Call_method m.base m.few m.line PySem.F.plainAttrs_dict PySem.F.slot_dict_get PySem.F.type_dict_get (thn (ho.run pins s σ H _ I h) fun u s1 ⟨x, H1, I1, rx, a, kvs, ex, ⟨hd, vs, rel, dd⟩, q1⟩ => ?_)
  subst ex
  obtain rfl : u = Value.ref a := rx
  have d1 := dd X.prog s1.heap I1.kIn
  refine ⟨d1.typeIs, fun b q => ?_, ?_⟩
  · cases q
    exact dictOf_free d1
  rw [m.trees]
  refine Calls.callWith_builtin rfl (Calls.evalArgs_plain (Calls.spliced_cons (thn (he.run pins s1 σ H1 _ I1 q1) fun iv s2 ⟨y, H2, I2, ry, q2⟩ =>
    Calls.spliced_cons (thn (hf.run pins s2 σ H2 _ I2 q2) fun fv s3 ⟨z, H3, I3, rz, k, ey, q3⟩ => Calls.spliced_nil ?_))))
  subst ey
  have d3 := dd X.prog s3.heap I3.kIn
  refine call_meetsIn PySem.F.slot_dict_get d3.typeIs PySem.F.entry_dict_get (PySem.F.args_dict_get_3 _ _ _) (meets_dict_get_default (mixKind X.prog X.w) a (kV_is ry) hd fv) ⟨_, d3.mapOf, ⟨_, H3, I3.tok _, ?_, q3⟩⟩
  exact (rel.val k).getD rz
theorem pe_kix (ho : PE X o td) (hi : PE X e ty) (hs : NoSl e) : PE X (.Subscript o e cpos) (tKIx X.K X.w td ty) := by
  refine ⟨fun pins s σ H Q I h => ?_⟩
  refine subD_of PySem.F.slot_dict_getitem.lookup hs (thn (ho.run pins s σ H _ I h) fun u s1 ⟨x, H1, I1, rx, q1⟩ => thn (hi.run pins s1 σ H1 _ I1 q1) fun iv s2 ⟨y, H2, I2, ry, a, kvs, k, v, ex, ⟨hd, vs, rel, dd⟩, ey, l, q2⟩ => ?_)
  subst ex
  subst ey
  obtain rfl : u = Value.ref a := rx
  have d2 := dd X.prog s2.heap I2.kIn
  obtain ⟨w', hw, rw'⟩ := RelO.some_of (v := v) (o := valueAt vs k) (by rw [← l]; exact rel.val k)
  exact ⟨d2.typeIs, wpAny_getItem_of (kV_is ry) d2.mapOf hw ⟨v, H2, I2.tok _, rw', q2⟩⟩
theorem pc_kin (hi : PE X e ty) (ho : PE X o td) : PC X .In e o (tKIn X.K X.w ty td) := by
  refine ⟨fun pins s σ H Q I h => ?_⟩
  refine thn (hi.run pins s σ H _ I h) fun iv s1 ⟨y, H1, I1, ry, q1⟩ => thn (ho.run pins s1 σ H1 _ I1 q1) fun u s2 ⟨x, H2, I2, rx, a, kvs, k, ex, ⟨hd, vs, rel, dd⟩, ey, q2⟩ => ?_
  subst ex
  subst ey
  obtain rfl : u = Value.ref a := rx
  have d2 := dd X.prog s2.heap I2.kIn
  refine wpAny_in_of (kV_is ry) hd d2.mapOf ?_
  rw [← (rel.val k).isSome_eq]
  exact ⟨.bl _, H2, I2.tok _, rfl, q2⟩
end
/-! .. keys tuples of integers and texts -/
def KTk : List (List Key × V) → List (List Key × Addr × Value) → Prop := Paired fun (p : List Key × V) (q : List Key × Addr × Value) => p.1 = q.1 ∧ RelV p.2 q.2.2
theorem KTk.val {kvs : List (List Key × V)} {xs : List (List Key × Addr × Value)} (r : KTk kvs xs) (k : List Key) : RelO (valV kvs k) ((atKey xs k).map (·.2)) := by
  induction r with
  | nil => exact True.intro
  | @cons p q ps qs h t ih =>
    obtain ⟨h1, h2⟩ := h
    by_cases e : p.1 = k
    · have e' : q.1 = k := h1.symm.trans e
      have b : atKey (q :: qs) k = some q.2 := by simp [atKey, List.find?_cons, e']
      rw [valV_pos e, b]; exact h2
    · have e' : ¬ q.1 = k := fun z => e (h1.trans z)
      have b : atKey (q :: qs) k = atKey qs k := by simp [atKey, List.find?_cons, e']
      rw [valV_neg e, b]; exact ih
def TabTAt (K : PySem.W.Frag) (w : World) (a : Addr) (kvs : List (List Key × V)) : Prop := (a == sysModules) = false ∧ ∃ xs : List (List Key × Addr × Value), KTk kvs xs ∧ ∀ (P : Program) (h : Heap), K.In h → h.DictOfH (tupleKind (mixKind P w)) a xs
def tKGetT (K : PySem.W.Frag) (w : World) (td ty tx : TE) : TE := fun σ H Q => td σ H fun x H1 => ∃ a kvs, x = .ref a ∧ TabTAt K w a kvs ∧ ty σ H1 fun y H2 => tx σ H2 fun z H3 => ∃ b ks, y = .ref b ∧ H3 b = some (.tup (ks.map kV)) ∧ Q ((valV kvs ks).getD z) H3
section
variable {X : Cx} {o e f : Expr} {apos cpos : Pos} {td ty tx : TE}
theorem pe_kget2T (hu : X.A.units + 1 < cLine) (ho : PE X o td) (he : PE X e ty) (hf : PE X f tx) (m : M2 X o "get" apos e f cpos) : PE X (.Call (.Attribute o "get" apos) [e, f] [] cpos) (tKGetT X.K X.w td ty tx) := by
  refine ⟨fun pins s σ H Q I h => ?_⟩
  refine wpAny_Call_method m.base m.few m.line PySem.F.plainAttrs_dict PySem.F.slot_dict_get PySem.F.type_dict_get (thn (ho.run pins s σ H _ I h) fun u s1 ⟨x, H1, I1, rx, a, kvs, ex, ⟨hd, xs, rel, dd⟩, q1⟩ => ?_)
  subst ex
  obtain rfl : u = Value.ref a := rx
  have d1 := dd X.prog s1.heap I1.kIn
  refine ⟨d1.typeIs, fun b q => ?_, ?_⟩
  · cases q
    obtain ⟨ob, _, _, h1, h2, _⟩ := d1
    exact ⟨ob, h1, h2.2.1⟩
  rw [m.trees]
  refine Calls.callWith_builtin rfl (Calls.evalArgs_plain (Calls.spliced_cons (thn (he.run pins s1 σ H1 _ I1 q1) fun iv s2 ⟨y, H2, I2, ry, q2⟩ =>
    Calls.spliced_cons (thn (hf.run pins s2 σ H2 _ I2 q2) fun fv s3 ⟨z, H3, I3, rz, b, ks, ey, eb, q3⟩ => Calls.spliced_nil ?_))))
  subst ey
  obtain rfl : iv = Value.ref b := ry
  have d3 := dd X.prog s3.heap I3.kIn
  refine call_meetsIn PySem.F.slot_dict_get d3.typeIs PySem.F.entry_dict_get (PySem.F.args_dict_get_3 _ _ _) (meetsH_dict_get_default (tupleKind (mixKind X.prog X.w)) a b hd fv) ⟨tupleKind_room_in1 hu, ks, xs, key_of I3.hok eb, d3, ⟨_, H3, I3.tok _, ?_, q3⟩⟩
  exact (rel.val ks).getD rz
end
end
section
open PySem PySem.Spec PyProof.Rows L2
abbrev KeyX : Type := Sum Key (List Key)
def hashX (w : World) : KeyX → Int
  | .inl k => keyH w k
  | .inr ks => reduceHash (Builtin.Tuple.tupleHashOf (ks.map (keyH w)))
def keyV : Value → Option Key
  | .str x _ => some (.inr x)
  | .int i _ => some (.inl i)
  | _ => none
def keyL : List Value → Option (List Key)
  | [] => some []
  | v :: r => match keyV v, keyL r with
    | some k, some ks => some (k :: ks)
    | _, _ => none
def keyX (K : PySem.W.Frag) : Value → Option KeyX
  | .ref b => (match K.lookup b with
    | some ⟨.type c, _, .seq its _, _⟩ => (match decide (c = "tuple") with
      | true => (match keyL its.toList with
        | some ks => some (.inr ks)
        | none => none)
      | false => none)
    | _ => none)
  | v => (match keyV v with
    | some k => some (.inl k)
    | none => none)
def tabE (K : PySem.W.Frag) (e : DictEntry) : Option (KeyX × Int) := match keyX K e.key with
  | some k => some (k, e.hash)
  | none => none
def tabW (K : PySem.W.Frag) (a : Addr) : Option (List (Option (KeyX × Int))) := match K.lookup a with
  | some ⟨.type c, none, .dict es _, sl⟩ => (match decide (c = "dict") && (sl.isEmpty && !(a == sysModules)) with
    | true => some (es.toList.map (tabE K))
    | false => none)
  | _ => none
def keysX (w : World) (ks : List KeyX) : List (Option (KeyX × Int)) := ks.map fun k => some (k, hashX w k)
def relAllB : List V → List Value → Bool
  | [], [] => true
  | x :: xs, u :: us => He.relB x u && relAllB xs us
  | _, _ => false
def tabV (K : PySem.W.Frag) (a : Addr) (xs : List V) : Bool := match K.lookup a with
  | some ⟨_, _, .dict es _, _⟩ => relAllB xs (es.toList.map (·.val))
  | _ => false
theorem tabW_obj {K : PySem.W.Frag} {a : Addr} {l : List (Option (KeyX × Int))} (h : tabW K a = some l) : ∃ es n, K.lookup a = some ⟨.type "dict", none, .dict es n, #[]⟩ ∧ es.toList.map (tabE K) = l ∧ (a == sysModules) = false := by
  unfold tabW at h
  cases q : K.lookup a with
  | none =>
    rw [q] at h
    cases h
  | some o =>
    obtain ⟨oc, od, dt, osl⟩ := o
    rw [q] at h
    cases oc with
    | type c =>
      cases od with
      | none =>
        cases dt with
        | dict es n =>
          have h1 : (match decide (c = "dict") && (osl.isEmpty && !(a == sysModules)) with
            | true => some (es.toList.map (tabE K))
            | false => none) = some l := h
          cases z : decide (c = "dict") && (osl.isEmpty && !(a == sysModules)) with
          | false =>
            rw [z] at h1
            cases h1
          | true =>
            rw [z] at h1
            obtain ⟨z1, z2⟩ := both z
            obtain ⟨z3, z4⟩ := both z2
            have e1 : c = "dict" := of_decide_eq_true z1
            have e2 : osl = #[] := Array.isEmpty_iff.mp z3
            have e3 : (a == sysModules) = false := by
              cases y : a == sysModules with
              | false => rfl
              | true =>
                rw [y] at z4
                cases z4
            subst e1 e2
            exact ⟨es, n, rfl, Option.some.inj h1, e3⟩
        | _ => cases h
      | some b => cases dt <;> cases h
    | _ => cases od <;> cases dt <;> cases h
theorem keyV_is {v : Value} {k : Key} (h : keyV v = some k) : keyIs k v = true := by
  unfold keyV at h
  split at h
  · cases h
    exact keyIs_str _ _
  · cases h
    exact keyIs_int _ _
  · cases h
theorem keyX_inl {K : PySem.W.Frag} {v : Value} {k : Key} (h : keyX K v = some (.inl k)) : keyIs k v = true := by
  unfold keyX at h
  split at h
  · split at h
    · split at h
      · split at h <;> cases h
      · cases h
    · cases h
  · split at h
    · rename_i k0 q
      cases h
      exact keyV_is q
    · cases h
theorem keyX_inr {K : PySem.W.Frag} {v : Value} {ks : List Key} (h : keyX K v = some (.inr ks)) : ∃ (b : Addr) (o : Obj) (its : Array Value) (n : Nat), v = .ref b ∧ K.lookup b = some o ∧ o.cls = .type "tuple" ∧ o.data = .seq its n ∧ keyL its.toList = some ks := by
  unfold keyX at h
  split at h
  · rename_i b
    split at h
    · rename_i c d its n sl hL
      split at h
      · rename_i hc
        split at h
        · rename_i ks0 q
          cases h
          have hc : c = "tuple" := of_decide_eq_true hc
          subst hc
          exact ⟨_, _, its, n, rfl, hL, rfl, rfl, q⟩
        · cases h
      · cases h
    · cases h
  · split at h <;> cases h
theorem tabE_of {K : PySem.W.Frag} {e : DictEntry} {k : KeyX} {z : Int} (h : tabE K e = some (k, z)) : keyX K e.key = some k ∧ e.hash = z := by
  unfold tabE at h
  split at h
  · rename_i k0 q
    have h1 := Option.some.inj h
    obtain ⟨h2, h3⟩ := Prod.mk.inj h1
    exact ⟨by rw [q, h2], h3⟩
  · cases h
theorem kv_zip : ∀ (xs : List V) (us : List Value), relAllB xs us = true → ∀ {κ : Type} (ks : List κ), KV (ks.zip xs) (ks.zip us)
  | [], [], _, _, ks => by
    cases ks <;> exact .nil
  | x :: xs, u :: us, h, _, [] => .nil
  | x :: xs, u :: us, h, _, k :: ks => .cons ⟨rfl, He.relB_ok (both h).1⟩ (kv_zip xs us (both h).2 ks)
  | [], _ :: _, h, _, _ => by cases h
  | _ :: _, [], h, _, _ => by cases h
theorem tab_pairs {P : Program} {w : World} {K : PySem.W.Frag} : ∀ (l : List DictEntry) (ks : List Key), l.map (tabE K) = keysX w (ks.map .inl) →
    Pairs (mixKind P w) l (ks.zip (l.map (·.val))) ∧ (∀ e ∈ l, ∃ k, (mixKind P w).is k e.key = true ∧ e.hash = (mixKind P w).hash k) ∧ l.length = ks.length
  | [], [], _ => ⟨.nil, fun _ h => absurd h (by simp), rfl⟩
  | [], _ :: _, h => by cases h
  | _ :: _, [], h => by cases h
  | e :: l, k :: ks, h => by
    have h1 : tabE K e :: l.map (tabE K) = some (.inl k, hashX w (.inl k)) :: keysX w (ks.map .inl) := h
    injection h1 with h2 h3
    obtain ⟨a1, a2⟩ := tabE_of h2
    have a1 := keyX_inl a1
    obtain ⟨p1, p2, p3⟩ := tab_pairs (P := P) l ks h3
    refine ⟨.cons a1 rfl p1, fun x hx => ?_, congrArg (· + 1) p3⟩
    rcases List.mem_cons.mp hx with q | q
    · rw [q]
      exact ⟨k, a1, a2⟩
    · exact p2 x q
theorem fst_zip {α β : Type} : ∀ (ks : List α) (us : List β), us.length = ks.length → (ks.zip us).map (·.1) = ks
  | [], _, _ => by simp
  | k :: ks, [], h => by cases h
  | k :: ks, u :: us, h => by
    show k :: (ks.zip us).map (·.1) = k :: ks
    rw [fst_zip ks us (Nat.succ.inj h)]
theorem tab_ok {w : World} {K : PySem.W.Frag} {a : Addr} {ks : List Key} {xs : List V} (h : tabW K a = some (keysX w (ks.map .inl))) (hv : tabV K a xs = true) (nd : ks.Nodup) : TabAt K w a (ks.zip xs) := by
  obtain ⟨es, n, hK, he, hs⟩ := tabW_obj h
  unfold tabV at hv
  rw [hK] at hv
  have hv : relAllB xs (es.toList.map (·.val)) = true := hv
  refine ⟨hs, ks.zip (es.toList.map (·.val)), kv_zip _ _ hv ks, fun P hp hin => ?_⟩
  obtain ⟨p1, p2, p3⟩ := tab_pairs (P := P) es.toList ks he
  refine ⟨_, es, n, hin a _ hK, ⟨rfl, rfl, rfl⟩, rfl, fun e hm => p2 e (Array.mem_toList_iff.mpr hm), p1, ?_⟩
  rw [fst_zip _ _ (by rw [List.length_map]; exact p3)]
  exact nd
theorem keyL_are {P : Program} {w : World} : ∀ (l : List Value) (ks : List Key), keyL l = some ks → ItemsAre (mixKind P w) ks l
  | [], ks, h => by
    cases h
    exact .nil
  | v :: l, ks, h => by
    unfold keyL at h
    split at h
    · rename_i k ks0 q1 q2
      cases h
      exact .cons (keyV_is q1) (keyL_are l _ q2)
    · cases h
theorem tab_ents {P : Program} {w : World} {K : PySem.W.Frag} : ∀ (l : List DictEntry) (ks : List (List Key)) (ys : List V), l.map (tabE K) = keysX w (ks.map .inr) → relAllB ys (l.map (·.val)) = true →
    ∃ xs : List (List Key × Addr × Value), l = xs.map (entryOfKey (tupleKind (mixKind P w))) ∧ (∀ x ∈ xs, ∃ (o : Obj) (its : Array Value) (n : Nat), K.lookup x.2.1 = some o ∧ o.cls = .type "tuple" ∧ o.data = .seq its n ∧ keyL its.toList = some x.1) ∧ xs.map (·.1) = ks ∧ KTk (ks.zip ys) xs
  | [], [], [], _, _ => ⟨[], rfl, fun _ h => absurd h (by simp), rfl, .nil⟩
  | [], [], _ :: _, _, h => by cases h
  | [], _ :: _, _, h, _ => by cases h
  | _ :: _, [], _, h, _ => by cases h
  | _ :: _, _ :: _, [], _, h => by cases h
  | e :: l, k :: ks, y :: ys, h, hv => by
    have h1 : tabE K e :: l.map (tabE K) = some (.inr k, hashX w (.inr k)) :: keysX w (ks.map .inr) := h
    injection h1 with h2 h3
    obtain ⟨a1, a2⟩ := tabE_of h2
    obtain ⟨b, o, its, n, c1, c2, c3, c4, c5⟩ := keyX_inr a1
    have hv : (He.relB y e.val && relAllB ys (l.map (·.val))) = true := hv
    obtain ⟨xs, d1, d2, d3, d4⟩ := tab_ents (P := P) l ks ys h3 (both hv).2
    refine ⟨(k, b, e.val) :: xs, ?_, fun x hx => ?_, congrArg (k :: ·) d3, .cons ⟨rfl, He.relB_ok (both hv).1⟩ d4⟩
    · obtain ⟨eh, ek, ev⟩ := e
      have c1 : ek = .ref b := c1
      have a2 : eh = hashX w (.inr k) := a2
      rw [c1, a2, d1]
      rfl
    · rcases List.mem_cons.mp hx with q | q
      · rw [q]
        exact ⟨o, its, n, c2, c3, c4, c5⟩
      · exact d2 x q
theorem tab_okT {w : World} {K : PySem.W.Frag} {a : Addr} {ks : List (List Key)} {ys : List V} (h : tabW K a = some (keysX w (ks.map .inr))) (hv : tabV K a ys = true) (nd : ks.Nodup) : TabTAt K w a (ks.zip ys) := by
  obtain ⟨es, n, hK, he, hs⟩ := tabW_obj h
  unfold tabV at hv
  rw [hK] at hv
  have hv : relAllB ys (es.toList.map (·.val)) = true := hv
  obtain ⟨xs, d1, d2, d3, d4⟩ := tab_ents (P := default) es.toList ks ys he hv
  refine ⟨hs, xs, d4, fun P hp hin => ⟨_, es, n, hin a _ hK, ⟨rfl, rfl, rfl⟩, rfl, d1, fun x hx => ?_, by rw [d3]; exact nd⟩⟩
  obtain ⟨o, its, m, c1, c2, c3, c4⟩ := d2 x hx
  exact ⟨o, its, m, hin _ _ c1, c2, c3, keyL_are _ _ c4⟩
end

/-! ### the Hook with such dicts -/
abbrev TabX : Type := Str × List KeyX
abbrev AlX : Type := AlM × List (Option (List (Option (KeyX × Int))))
def obsX (fa : List He.Fa) (ex : Frg → Bool) (fn : List DefM) (ts : List TabX) (K : Frg) : AlX := (obsM fa ex fn K, ts.map fun t => tabW K (He.ga K t.1))
def valX (fn : List DefM) (ts : List TabX) (w : World) : AlX := (valM fn, ts.map fun t => some (keysX w t.2))
def SaysX (fa : List He.Fa) (ex : Frg → Bool) (fn : List DefM) (ts : List TabX) (w : World) (K : Frg) : Prop := obsX fa ex fn ts K = valX fn ts w
def hookX (n : Nat) (fa : List He.Fa) (ex : Frg → Bool) (fn : List DefM) (ts : List TabX) : PySem.W.Hook where
  α := AlX
  obs := fun s => obsX fa ex fn ts (frM n s.heap.get?)
  val := fun w => valX fn ts w
  says := fun w h => ∃ K : Frg, K.In h ∧ SaysX fa ex fn ts w K
  of := fun _ _ e => ⟨_, He.frG_in, e⟩
  keeps := fun _ _ _ ⟨K, hK, c⟩ k => ⟨K, PySem.W.Frag.In.keeps hK k, c⟩
theorem obsX_eq {n : Nat} {fa : List He.Fa} {ex : Frg → Bool} {fn : List DefM} {ts : List TabX} {g : Addr → Option Obj} {s : Shared} (h : ∀ a, g a = s.heap.get? a) : obsX fa ex fn ts (frM n g) = (hookX n fa ex fn ts).obs s := by
  have e : g = s.heap.get? := funext h
  subst e
  rfl
section
variable {fa : List He.Fa} {ex : Frg → Bool} {fn : List DefM} {ts : List TabX} {w : World} {K : Frg}
theorem SaysX.m (c : SaysX fa ex fn ts w K) : SaysM fa ex fn K := congrArg (fun z : AlX => z.1) c
theorem SaysX.tab (c : SaysX fa ex fn ts w K) (i : Nat) {t : TabX} (h : ts[i]? = some t) : tabW K (He.ga K t.1) = some (keysX w t.2) := by
  have e : ts.map (fun t => tabW K (He.ga K t.1)) = ts.map fun t => some (keysX w t.2) := congrArg (fun z : AlX => z.2) c
  have e2 : (ts.map fun t => tabW K (He.ga K t.1))[i]? = (ts.map fun t => some (keysX w t.2))[i]? := by rw [e]
  rw [List.getElem?_map, List.getElem?_map, h] at e2
  exact Option.some.inj e2
end
/-! ### a display of a dict asks the world one thing: both answers are run -/
def setF (w : World) (b : Bool) : World := { w with params := { w.params with followText := fun x => if x = "special-get-raises" then b else w.params.followText x } }
theorem setF_eq (w : World) : setF w (w.params.followText "special-get-raises") = w := by
  have e : (fun x => if x = "special-get-raises" then w.params.followText "special-get-raises" else w.params.followText x) = w.params.followText := by
    funext x
    by_cases h : x = "special-get-raises"
    · rw [if_pos h, h]
    · rw [if_neg h]
  show ({ w with params := { w.params with followText := fun x => if x = "special-get-raises" then w.params.followText "special-get-raises" else w.params.followText x } } : World) = w
  rw [e]

/-! ### own exceptions with one field; defs that raise -/
def oexB (K : Frg) (C : Addr) : Bool := match K.lookup C with
  | some ⟨.type t, _, .cls cd, sl⟩ => decide (t = "type") && (match cd.mro, sl.toList with
    | .ref c :: bm, [_, _, _, _, some (.builtin n), _] => decide (c = C) && (decide (n = "ValueError.__new__") && (!cd.hasDel && (cd.hasDict && PySem.HandSPX.refsVE bm)))
    | _, _ => false)
  | _ => false
theorem oexM {K : Frg} {C : Addr} (h : oexB K C = true) : ∃ nm q N bs bm sn sub ab col dd k0 k1 k2 k3 k5, K.lookup C = some (excClassObj nm q C N bs bm true sn sub ab col dd k0 k1 k2 k3 k5 "ValueError.__new__") ∧ PySem.HandSPX.refsVE bm = true := by
  unfold oexB at h
  split at h
  · rename_i t dd cd sl ho
    obtain ⟨h1, h⟩ := both h
    have h1 : t = "type" := of_decide_eq_true h1
    split at h
    · rename_i c bm k0 k1 k2 k3 n k5 hm hs
      obtain ⟨h2, h⟩ := both h
      obtain ⟨h3, h⟩ := both h
      obtain ⟨h4, h⟩ := both h
      obtain ⟨h5, h6⟩ := both h
      have h2 : c = C := of_decide_eq_true h2
      have h3 : n = "ValueError.__new__" := of_decide_eq_true h3
      obtain ⟨nm, bs, mro, ns, qn, hd, sn, sub, ab, col, del⟩ := cd
      dsimp only at hm h4 h5
      have h4 : del = false := by cases del <;> first | rfl | cases h4
      subst hm h4 h5 h1 h2 h3
      have hsl : sl = #[k0, k1, k2, k3, some (.builtin "ValueError.__new__"), k5] := by
        obtain ⟨l⟩ := sl
        simp only at hs
        rw [hs]
      subst hsl
      exact ⟨nm, qn, ns, bs, bm, sn, sub, ab, col, dd, k0, k1, k2, k3, k5, ho, h6⟩
    · cases h
  · cases h
/-- the class at C may be raised with one field f; its __init__ stands at fI -/
structure ExcK (K : Frg) (C fI : Addr) (f : Str) : Prop where
  oex : OexC K C
  ini : PySem.W.findIn K (.ref C) "__init__" = some (some (.ref fI))
  tI : PySem.W.typeIn K (.ref fI) = some (.type "function")
  no : PySem.W.findIn K (.ref C) f = some none
  xf : XfC K C
  te : PySem.W.exmOne K (.ref C) (.ref C) = some true
def exkB (K : Frg) (C fI : Addr) (f : Str) : Bool := oexB K C && (He.eqO (PySem.W.findIn K (.ref C) "__setattr__") (some (some (.builtin "object.__setattr__"))) && (decide (PySem.W.subIn K (.ref C) (.type "BaseException") = some true) &&
  (decide (PySem.W.typeIn K (.ref C) = some (.type "type")) && (PySem.W.keepIn K (.ref C) && (He.eqO (PySem.W.findIn K (.ref C) "__init__") (some (some (.ref fI))) && (decide (PySem.W.typeIn K (.ref fI) = some (.type "function")) &&
  (He.eqO (PySem.W.findIn K (.ref C) f) (some none) && (xfB K C && decide (PySem.W.exmOne K (.ref C) (.ref C) = some true)))))))))
theorem exkM {K : Frg} {C fI : Addr} {f : Str} (h : exkB K C fI f = true) : ExcK K C fI f := by
  obtain ⟨h1, h⟩ := both h
  obtain ⟨h2, h⟩ := both h
  obtain ⟨h3, h⟩ := both h
  obtain ⟨h4, h⟩ := both h
  obtain ⟨h5, h⟩ := both h
  obtain ⟨h6, h⟩ := both h
  obtain ⟨h7, h⟩ := both h
  obtain ⟨h8, h⟩ := both h
  obtain ⟨h9, h10⟩ := both h
  exact ⟨⟨oexM h1, He.eqO_ok h2, of_decide_eq_true h3, of_decide_eq_true h4, h5⟩, He.eqO_ok h6, of_decide_eq_true h7, He.eqO_ok h8, xfB_ok h9, of_decide_eq_true h10⟩
/-- __init__(self, f): self.f = f -/
def spExc (K : Frg) (f : Str) : Sp := fun vs H Q _ => ∃ (a C : Addr) (v : V), vs = [.ref a, v] ∧ OexC K C ∧ PySem.W.findIn K (.ref C) f = some none ∧ H a = some (exo a C none) ∧
  ∀ dx, H dx = none → dx ≠ a → Q .non (upd (upd H dx (exd dx [(f, v)])) a (exo a C (some dx)))
/-- an exception class of this name, ready to be raised -/
structure Raz (P : Program) (w : World) (K : Frg) (mg : Str → Option Value) (base : Heap) (x : Str) (C : Addr) (f : Str) : Prop where
  ex : ∃ (fI : Addr) (fd : FuncData), ExcK K C fI f ∧ mg x = some (.ref C) ∧ FnOk P w K mg base CX0 1 fI fd ["self", f] (spExc K f) ∧ Binds K fd ["self", f] []
/-- a def that may raise -/
structure CalX (P : Program) (w : World) (K : Frg) (mg : Str → Option Value) (base : Heap) (k : Nat) (x : Str) (sp : Sp) : Prop where
  ex : ∃ (f : Addr) (fd : FuncData) (ps : List Str), FnOk P w K mg base (L2.CX P w) k f fd ps sp ∧ mg x = some (.ref f) ∧ PySem.W.keepIn K (.ref f) = true ∧ Binds K fd ps []
/-- .. a method -/
structure MetX (P : Program) (w : World) (K : Frg) (mg : Str → Option Value) (base : Heap) (k : Nat) (C : Addr) (m : Str) (sp : Sp) : Prop where
  ex : ∃ (f : Addr) (fd : FuncData) (ps : List Str), Cls K C ∧ Meth K C m f ∧ FnOk P w K mg base (L2.CX P w) k f fd ps sp ∧ Binds K fd ps []
section
variable {P : Program} {w : World} {K : Frg} {mg : Str → Option Value} {base : Heap} {x qual : Str} {params : Arguments} {body : List Stmt} {scope : Scope} {f : Addr} {fd : FuncData} {N ps : List Str} {k : Nat} {sp : Sp} {C : Addr}
theorem calXD (F : FunD K x qual params body scope [] [] f fd) (m : mg x = some (.ref f)) (S : FnScope N ps scope)
    (hb : ∀ (kV doc pm : Value) (an : Option Addr) (cdv ct : Value) (us : List Value), us.length = ps.length → bindArgs (PySem.W.fnOf x qual params body scope .none kV doc pm an cdv ct) ⟨us, []⟩ = pure (ps.zip us))
    (len : ∀ vs H Q E, sp vs H Q E → vs.length = ps.length)
    (hbody : ∀ (cdv : Value) (A : Around) (outer : List Env) (s : Shared) (H : Hp) (vs : List V) (Q : VK) (E : XK), Room k (A.deeper (envOfC qual scope s.heap.objs.size f cdv)) → sp vs H Q E →
      ∃ t, PSs (cxOf (L2.CX P w) P w K mg base N qual scope f cdv A outer s H E) body t ∧ t { nx := fun _ H' => Q .non H', rt := Q } (start N vs) H) : CalX P w K mg base (k + 1) x sp :=
  ⟨f, fd, ps, F.ok S len hbody, m, F.kp, F.bindsN hb⟩
theorem metXD (F : FunD K x qual params body scope [] [] f fd) (cl : Cls K C) (me : Meth K C x f) (S : FnScope N ps scope)
    (hb : ∀ (kV doc pm : Value) (an : Option Addr) (cdv ct : Value) (us : List Value), us.length = ps.length → bindArgs (PySem.W.fnOf x qual params body scope .none kV doc pm an cdv ct) ⟨us, []⟩ = pure (ps.zip us))
    (len : ∀ vs H Q E, sp vs H Q E → vs.length = ps.length)
    (hbody : ∀ (cdv : Value) (A : Around) (outer : List Env) (s : Shared) (H : Hp) (vs : List V) (Q : VK) (E : XK), Room k (A.deeper (envOfC qual scope s.heap.objs.size f cdv)) → sp vs H Q E →
      ∃ t, PSs (cxOf (L2.CX P w) P w K mg base N qual scope f cdv A outer s H E) body t ∧ t { nx := fun _ H' => Q .non H', rt := Q } (start N vs) H) : MetX P w K mg base (k + 1) C x sp :=
  ⟨f, fd, ps, cl, me, F.ok S len hbody, F.bindsN hb⟩
end
def tMethS (C : Addr) (m : Str) (sp : Sp) (E : St → XK) (ta : TE) (t : TA) : TE := fun σ H Q => ta σ H fun x H1 => ∃ a dx fs, x = .ref a ∧ H1 a = some (.ins C dx fs) ∧ fs.lookup m = none ∧ t σ H1 fun vs H2 => sp (x :: vs) H2 Q (E σ)
section
variable {X : Cx} {k j : Nat} {C : Addr} {x m : Str} {sp : Sp} {W : WX} {p pos apos pos2 : Pos} {e o : Expr} {es : List Expr} {ta : TE} {t : TA}
theorem pe_cX (c : CalX X.prog X.w X.K X.mg X.base k x sp) (hr : Room j X.A) (hk : k ≤ j) (hg : Gl X x) (tk : Takes X W) (ha : PA X (e :: es) t)
    (hdb : (x == ("__debug__" : Str)) = false := by decide) (he : starEach (e :: es) X.env = (false, eval e X.env) :: starEach es X.env := by rfl) (hpl : (backTo pos (starEach es X.env)).any (·.1) = false := by rfl) :
    PE X (.Call (.Name x p) (e :: es) [] pos) (tCallS sp (WE W) t) := by
  obtain ⟨f, fd, ps, F, hm, kp, b⟩ := c.ex
  exact pe_callS F (hr.mono hk) hg hm kp b (fun σ => passAt tk σ) ha hdb he hpl
theorem pe_mtX {pl : Sem Bool} (c : MetX X.prog X.w X.K X.mg X.base k C m sp) (hr : Room j X.A) (hk : k ≤ j) (tk : Takes X W) (he : PE X o ta) (ha : PA X (e :: es) t)
    (hst : starEach (e :: es) X.env = (false, eval e X.env) :: starEach es X.env := by rfl) (hpl : (backTo pos (starEach es X.env)).any (·.1) = false := by rfl)
    (ht : eval (.Call (.Attribute o m apos) (e :: es) [] pos) X.env = (do
      let ov ← eval o X.env
      standAt apos.atName
      let (f, first) ← holding [ov] (getMethod ov m pl)
      callWith pos f first (backTo pos (starEach (e :: es) X.env)) (backToKw pos (keywordEach [] X.env))) := by rfl) :
    PE X (.Call (.Attribute o m apos) (e :: es) [] pos) (tMethS C m sp (WE W) ta t) := by
  obtain ⟨f, fd, ps, hc, hm, F, b⟩ := c.ex
  refine ⟨fun pins s σ H Q I h => ?_⟩
  refine PySem.W.methodCall_KW (pl := pl) (thn (he.run pins s σ H _ I h) fun u s1 ⟨x, H1, I1, rx, a, dx, fs, ex, ea, l, q⟩ => ?_) ht
  subst ex
  obtain rfl : u = Value.ref a := rx
  refine getmeth_ok I1 ea hc hm l ?_
  refine PySem.W.callWith_K (first := [.ref a]) (h₀ := X.base) I.ok.mod.kin hm.kp (thn (ha.run pos pins s1 σ H1 _ I1 q) fun us s2 ⟨vs, H2, I2, r, q2⟩ => ⟨I2.kIn, ?_⟩) hst hpl
  exact run_fnS (us := .ref a :: us) (vs := .ref a :: vs) F (hr.mono hk) b (passAt tk σ) I2 (.cons rfl r) q2
theorem pe_mtX0 {pl : Sem Bool} (c : MetX X.prog X.w X.K X.mg X.base k C m sp) (hr : Room j X.A) (hk : k ≤ j) (tk : Takes X W) (he : PE X o ta)
    (ht : eval (.Call (.Attribute o m apos) [] [] pos) X.env = (do
      let ov ← eval o X.env
      standAt apos.atName
      let (f, first) ← holding [ov] (getMethod ov m pl)
      callWith pos f first (backTo pos (starEach [] X.env)) (backToKw pos (keywordEach [] X.env))) := by rfl) :
    PE X (.Call (.Attribute o m apos) [] [] pos) (tMethS C m sp (WE W) ta tNil) := by
  obtain ⟨f, fd, ps, hc, hm, F, b⟩ := c.ex
  refine ⟨fun pins s σ H Q I h => ?_⟩
  refine PySem.W.methodCall_KW (pl := pl) (thn (he.run pins s σ H _ I h) fun u s1 ⟨x, H1, I1, rx, a, dx, fs, ex, ea, l, q⟩ => ?_) ht
  subst ex
  obtain rfl : u = Value.ref a := rx
  refine getmeth_ok I1 ea hc hm l ?_
  exact PySem.W.callWith_K0 (first := [.ref a]) I1.kIn hm.kp (run_fnS (us := [.ref a]) (vs := [.ref a]) F (hr.mono hk) b (passAt tk σ) I1 (.cons rfl .nil) q)
def tWeak (te : TE) : TE := fun σ H Q => ∃ Q' : VK, te σ H Q' ∧ ∀ v H1, Q' v H1 → Q v H1
theorem pe_weak (he : PE X e ta) : PE X e (tWeak ta) := ⟨fun pins s σ H Q I ⟨Q', h, m⟩ => wpAny_mono (he.run pins s σ H Q' I h) (fun _ _ ⟨v, H1, I1, r, q⟩ => ⟨v, H1, I1, r, m v H1 q⟩) fun _ _ z => z⟩
/-- raise C(e), C with one field -/
def tRaz (C : Addr) (f : Str) (W : WX) (te : TE) : TS := fun _ σ H => te σ H fun v H1 => ∀ d, H1 d = none → W (.ref C) (some d) σ (upd H1 d (.xd [(f, v)]))
theorem ps_raz {f : Str} (r : Raz X.prog X.w X.K X.mg X.base x C f) (hc : X.calm = true) (hr : Room j X.A) (hk : 2 ≤ j) (hg : Gl X x) (tk : Takes X W) (he : PE X e ta)
    (hdb : (x == ("__debug__" : Str)) = false := by decide) (hs : starEach (e :: []) X.env = (false, eval e X.env) :: starEach [] X.env := by rfl) (hpl : (backTo pos (starEach [] X.env)).any (·.1) = false := by rfl) :
    PS X (.Raise (some (.Call (.Name x p) [e] [] pos)) none pos2) (tRaz C f W ta) := by
  obtain ⟨fI, fd, T, hm, F, b⟩ := r.ex
  have he2 : PE X e (tWeak ta) := pe_weak he
  have z := ps_raise (pos := pos2) hc tk (pmk_oex (p := p) (pos := pos) T.oex T.ini T.tI F (hr.mono hk) b .nil pass0 hg hm (pa_cons he2 pa_nil hs) hdb hs hpl)
  refine ⟨fun pins s σ H D I h => z.run pins s σ H D I ?_⟩
  refine ⟨_, h, fun v H1 q => ⟨by show 1 ≤ 1000; decide, fun a ha => ⟨a, C, v, rfl, T.oex, T.no, upd_same, fun dx hd hne => ⟨rfl, dx, [(f, v)], upd_same, ?_, ?_, ?_⟩⟩⟩⟩
  · rw [upd_ne hne, upd_same]
  · rw [upd_ne hne] at hd
    exact hd
  · rw [upd_ne hne] at hd
    have e : upd (del (upd (upd (upd H1 a (exo a C none)) dx (exd dx [(f, v)])) a (exo a C (some dx))) a) dx (.xd [(f, v)]) = upd H1 dx (.xd [(f, v)]) := by
      funext b
      by_cases hb : b = dx
      · rw [hb, upd_same, upd_same]
      · rw [upd_ne hb, upd_ne hb]
        by_cases hba : b = a
        · rw [hba, del_same, ha]
        · rw [del_ne hba, upd_ne hba, upd_ne hb, upd_ne hba]
    rw [e]
    exact q dx hd
end
section
variable {σ : St} {H : Hp} {D : Ends} {Q : VK} {C a : Addr} {K : Frg} {f m : Str} {W : WX} {te to ta : TE} {t : TA} {sp : Sp} {E : St → XK} {n : St → Hp → Prop} {r : VK} {b c : St → Hp → Prop} {cls : Value} {d : Option Addr}
theorem r_raz (h : te σ H fun v H1 => ∀ d, H1 d = none → W (.ref C) (some d) σ (upd H1 d (.xd [(f, v)]))) : tRaz C f W te D σ H := h
theorem r_ost (h : te σ H fun y H1 => to σ H1 fun x H2 => ∃ a C : Addr, x = .ref a ∧ OexC K C ∧ PySem.W.findIn K (.ref C) f = some none ∧
  ((H2 a = some (exo a C none) ∧ ∀ dx, H2 dx = none → dx ≠ a → n σ (upd (upd H2 dx (exd dx [(f, y)])) a (exo a C (some dx)))) ∨
    ∃ (dx : Addr) (fs : List (Str × V)), H2 a = some (exo a C (some dx)) ∧ H2 dx = some (exd dx fs) ∧ fs.length ≤ 900 ∧ n σ (upd H2 dx (exd dx ((f, y) :: fs))))) : tOst K f to te ⟨n, r, b, c⟩ σ H := h
theorem r_callS (h : t σ H fun vs H1 => sp vs H1 Q (E σ)) : tCallS sp E t σ H Q := h
theorem r_methS (h : ta σ H fun x H1 => ∃ a dx fs, x = .ref a ∧ H1 a = some (.ins C dx fs) ∧ fs.lookup m = none ∧ t σ H1 fun vs H2 => sp (x :: vs) H2 Q (E σ)) : tMethS C m sp E ta t σ H Q := h
theorem r_xf (h : te σ H fun x H1 => x = .ref a ∧ cls = .ref C ∧ ∃ (dd : Addr) (fs : List (Str × V)) (v : V), d = some dd ∧ H1 dd = some (.xd fs) ∧ fs.lookup f = some v ∧ Q v H1) : tXf a cls d C f te σ H Q := h
end
section
variable {P : Program} {w : World} {K : Frg} {mg : Str → Option Value} {base : Heap} {params : Arguments} {body : List Stmt} {scope : Scope} {f : Addr} {fd : FuncData} {x : Str} {C : Addr}
/-- an exception class from what the top wrote -/
theorem razM {n qual : Str} {dv : V} (F : FunD K "__init__" qual params body scope [dv] [] f fd) (S : FnScope ["self", n] ["self", n] scope) (T : ExcK K C f n) (m : mg x = some (.ref C))
    (h : ∀ (Tt : Addr) (kV doc pm : Value) (an : Option Addr) (cdv ct : Value) (us its : List Value), us.length = 2 → its.length = 1 →
      ∃ k, bindArgs (PySem.W.fnOf "__init__" qual params body scope (.ref Tt) kV doc pm an cdv ct) ⟨us, []⟩ = seqItems? (.ref Tt) >>= k ∧ k (some its.toArray) = pure ((["self", n] : List Str).zip (us ++ its.drop 1)))
    (hbody : ∀ (cdv : Value) (A : Around) (outer : List Env) (s : Shared) (H : Hp) (E : XK), PSs (cxOf CX0 P w K mg base ["self", n] qual scope f cdv A outer s H E).nox body (tOst K n (tVar 0) (tVar 1))) : Raz P w K mg base x C n := by
  obtain ⟨ds, r, b⟩ := F.binds1 2 1 (List.cons_ne_nil _ _) rfl h
  have e : ds = [] := by
    cases r
    rfl
  subst e
  refine ⟨f, fd, T, m, F.ok S (fun vs H Q E hs => ?_) fun cdv A outer s H vs Q E hr hs => ?_, b⟩
  · obtain ⟨_, _, _, rfl, _⟩ := hs
    rfl
  · obtain ⟨a, C', v, rfl, T', no, ea, q⟩ := hs
    refine ⟨_, (hbody cdv A outer s H E).nox, ?_⟩
    exact ⟨_, rfl, _, rfl, a, C', rfl, T', no, .inl ⟨ea, q⟩⟩
end
section
variable {X : Cx} {x n : Str} {c : Value} {i : Nat} {body suite : List Stmt} {b₀ : Stmt} {np pos pos' : Pos} {tb : WX → TS} {ts : Addr → Value → Option Addr → TS} {Wout : WX}
/-- ps_try_as, the readings told behind the bodies (so that the elaborator sees the statements first) -/
theorem ps_try_asE (hs : X.stack = X.env :: X.outer) (hf : X.env.frame = some X.env.locals) (hN : X.N.Nodup) (hi : X.N[i]? = some n) (hln : X.env.kindOf n = some .local) (hc : Names X x c) (tk : Takes X Wout)
    (hb : ∀ (W : WX) (pn : List (Addr × Obj)) (xe : Value → Shared → Prop), Takes (X.tr pn xe) W → PassesOwn (model X.prog X.w) X.A X.env xe → ∃ t, PSs (X.tr pn xe) body t ∧ t = tb W)
    (hsu : ∀ (a : Addr) (oe : Obj) (cls : Value) (d : Option Addr) (pn : List (Addr × Obj)), Zc cls d oe → (∃ vs, oe.data = .fields vs) → ∃ t, PSs (X.suite a ((a, oe) :: pn)) (b₀ :: suite) t ∧ t = ts a cls d) :
    PS X (.Try body [.ExceptHandler (some (.Name x np)) (some n) (b₀ :: suite) pos'] [] [] pos) (fun D σ H => tb (wAs X.K c i ts Wout D) D σ H) :=
  ps_try_as hs hf hN hi hln hc tk (fun W pn xe h1 h2 => by
    obtain ⟨t, p, e⟩ := hb W pn xe h1 h2
    rw [← e]
    exact p) fun a oe cls d pn h1 h2 => by
    obtain ⟨t, p, e⟩ := hsu a oe cls d pn h1 h2
    rw [← e]
    exact p
end
theorem pi_listK {X : Cx} {tg l : Expr} {tl : TE} {K : Frg} (e : X.K = K) (hl : PE X l tl) : PI X tg l (iList K tl) := by
  rw [← e]
  exact pi_list hl

/-! ### isinstance of a caught error that has a field -/
structure IsxC (K : Frg) (D : Addr) : Prop where
  xf : XfC K D
  ha : PySem.W.findIn K (.ref D) "__class__" = some (some (.builtin "object.__class__"))
  hn : PySem.W.specialIn K (.builtin "object.__class__") "__get__" = some (some (.builtin "getset_descriptor.__get__"))
  ht : PySem.W.takesIn K (.builtin "object.__class__") = some true
  hm : PySem.W.mroIn K D (.type "object") = some true
def isxB (K : Frg) (D : Addr) : Bool := xfB K D && (decide (PySem.W.findIn K (.ref D) "__class__" = some (some (.builtin "object.__class__"))) && (decide (PySem.W.specialIn K (.builtin "object.__class__") "__get__" = some (some (.builtin "getset_descriptor.__get__"))) && (decide (PySem.W.takesIn K (.builtin "object.__class__") = some true) && decide (PySem.W.mroIn K D (.type "object") = some true))))
theorem isxM {K : Frg} {D : Addr} (h : isxB K D = true) : IsxC K D := by
  obtain ⟨h1, h⟩ := both h
  obtain ⟨h2, h⟩ := both h
  obtain ⟨h3, h⟩ := both h
  obtain ⟨h4, h5⟩ := both h
  exact ⟨xfB_ok h1, of_decide_eq_true h2, of_decide_eq_true h3, of_decide_eq_true h4, of_decide_eq_true h5⟩
def rIsX (K : Frg) (a : Addr) (cls : Value) (d : Option Addr) : List V → Hp → VK → Prop := fun xs H Q => ∃ (C D dd : Addr) (fs : List (Str × V)) (b : Bool), xs = [.ref a, .ref C] ∧ cls = .ref D ∧ d = some dd ∧ H dd = some (.xd fs) ∧ IsxC K D ∧ PySem.W.kitOne K (.ref D) (.ref C) = some b ∧ Q (.bl b) H
theorem call_isX {X : Cx} {a : Addr} {cls : Value} {d : Option Addr} {oe : Obj} {pn : List (Addr × Obj)} (hz : Zc cls d oe) (hf : ∃ vs, oe.data = .fields vs) : CallR (X.suite a ((a, oe) :: pn)) (.builtin "isinstance") (rIsX X.K a cls d) := by
  intro pins s σ H xs us Q I r h
  obtain ⟨C, D, dd, fs, b, rfl, rfl, rfl, ea, T, e, q⟩ := h
  cases r with
  | cons rx rr =>
    cases rr with
    | cons rt rr =>
      cases rr
      cases rx
      cases rt
      obtain ⟨hget, _⟩ := I.pin (a, oe) (List.mem_append_left _ List.mem_cons_self)
      obtain ⟨vs, hv⟩ := hf
      have hx : ObjOk X.prog X.w H s.heap dd (.xd fs) := I.hok dd _ ea
      obtain ⟨mA, hns, _⟩ := hx
      obtain ⟨od, ho, _⟩ := lookIn_ns hns
      have J : PySem.W.InstAt s.heap a oe D (some od) := ⟨hget, hz.1, by unfold PySem.W.notCls; rw [hv] <;> rfl, by rw [hz.2]; exact ho⟩
      have ic : (PySem.W.clsIn X.K D).isSome = true := by
        have q := T.xf.hdC
        unfold PySem.W.hasDictIn at q
        cases z : PySem.W.clsIn X.K D with
        | some c => rfl
        | none => rw [z] at q; cases q
      exact PySem.W.kia_one (PySem.W.kitx_exc ic T.xf.ga T.xf.gg T.xf.exC T.ha T.hn T.ht T.hm) I.kIn J e (fun z => nomatch z) fun tk => ⟨.bl b, H, I.kept (t' := tk) fun _ _ z => z, rfl, q⟩

/-! ### the Hook over addresses that are written down -/
def hookY (l : List Addr) (fa : List He.Fa) (ex : Frg → Bool) (fn : List DefM) (ts : List TabX) : PySem.W.Hook where
  α := AlX
  obs := fun s => obsX fa ex fn ts (He.frG s.heap.get? l)
  val := fun w => valX fn ts w
  says := fun w h => ∃ K : Frg, K.In h ∧ SaysX fa ex fn ts w K
  of := fun _ _ e => ⟨_, He.frG_in, e⟩
  keeps := fun _ _ _ ⟨K, hK, c⟩ k => ⟨K, PySem.W.Frag.In.keeps hK k, c⟩
theorem obsY_eq {l : List Addr} {fa : List He.Fa} {ex : Frg → Bool} {fn : List DefM} {ts : List TabX} {g : Addr → Option Obj} {s : Shared} (h : ∀ a, g a = s.heap.get? a) : obsX fa ex fn ts (He.frG g l) = (hookY l fa ex fn ts).obs s := by
  have e : g = s.heap.get? := funext h
  subst e
  rfl
/-- the same for a program without such dicts -/
def hookZ (l : List Addr) (fa : List He.Fa) (ex : Frg → Bool) (fn : List DefM) : PySem.W.Hook where
  α := AlM
  obs := fun s => obsM fa ex fn (He.frG s.heap.get? l)
  val := fun _ => valM fn
  says := fun _ h => ∃ K : Frg, K.In h ∧ SaysM fa ex fn K
  of := fun _ _ e => ⟨_, He.frG_in, e⟩
  keeps := fun _ _ _ ⟨K, hK, c⟩ k => ⟨K, PySem.W.Frag.In.keeps hK k, c⟩
theorem obsZ_eq {l : List Addr} {fa : List He.Fa} {ex : Frg → Bool} {fn : List DefM} {g : Addr → Option Obj} {s : Shared} (h : ∀ a, g a = s.heap.get? a) : obsM fa ex fn (He.frG g l) = (hookZ l fa ex fn).obs s := by
  have e : g = s.heap.get? := funext h
  subst e
  rfl
/-- the look at the defs in two halves -/
theorem run_join {r : PySem.W.OpenRow} {q : Program} {l : List Addr} {fa : List He.Fa} {ex : Frg → Bool} {fn1 fn2 : List DefM} {ts : List TabX} {M : Nat} {loose : List PySem.Str} {w : World}
    (h1 : HandSHeadRun.RunEq r q (hookY l fa ex fn1 ts) (fun s => obsX fa ex fn1 ts (He.frG (HandSHeadRun.getT s) l)) M loose w)
    (h2 : HandSHeadRun.RunEq r q (hookY l [] (fun _ => true) fn2 []) (fun s => obsX [] (fun _ => true) fn2 [] (He.frG (HandSHeadRun.getT s) l)) M loose w) :
    HandSHeadRun.RunEq r q (hookY l fa ex (fn1 ++ fn2) ts) (fun s => obsX fa ex (fn1 ++ fn2) ts (He.frG (HandSHeadRun.getT s) l)) M loose w := by
  intro os
  have e1 := h1 os
  have e2 := h2 os
  generalize HandSHeadRun.endF (HandSHeadRun.stepQ (HandSHeadRun.denQ HandSHeadRun.tabQ) r.prog w) M r.prog w os = o at e1 e2 ⊢
  cases o with
  | none => cases e1
  | some s =>
    have a1 := Option.some.inj e1
    have a2 := Option.some.inj e2
    have b1 := congrArg (fun z => z.2.2) a1
    have b2 := congrArg (fun z => z.2.2) a2
    have c1 := congrArg (fun z => z.1) a1
    have c2 := congrArg (fun z => z.2.1) a1
    have b1 : obsX fa ex fn1 ts (He.frG (HandSHeadRun.getT s) l) = valX fn1 ts w := b1
    have b2 : obsX [] (fun _ => true) fn2 [] (He.frG (HandSHeadRun.getT s) l) = valX fn2 [] w := b2
    generalize hK : He.frG (HandSHeadRun.getT s) l = K at b1 b2
    have d : obsX fa ex (fn1 ++ fn2) ts K = valX (fn1 ++ fn2) ts w := by
      have m1 := congrArg (fun z : AlX => z.1.1) b1
      have m2 := congrArg (fun z : AlX => z.1.2) b1
      have m3 := congrArg (fun z : AlX => z.2) b1
      have n1 := congrArg (fun z : AlX => z.1.1) b2
      have n2 := congrArg (fun z : AlX => z.1.2) b2
      have m1 : ((fa.all fun x => x.ok K) && (ex K && fn1.all fun d => okM K d)) = true := m1
      have m2 : (fn1.map fun d => seeM K d) = fn1.map dueM := m2
      have n1 : (([] : List He.Fa).all (fun x => x.ok K) && (true && fn2.all fun d => okM K d)) = true := n1
      have n2 : (fn2.map fun d => seeM K d) = fn2.map dueM := n2
      have n1 : (fn2.all fun d => okM K d) = true := n1
      simp only [Bool.and_eq_true] at m1
      show ((((fa.all fun x => x.ok K) && (ex K && (fn1 ++ fn2).all fun d => okM K d)), (fn1 ++ fn2).map fun d => seeM K d), _) = ((true, (fn1 ++ fn2).map dueM), _)
      rw [List.all_append, List.map_append, List.map_append, m2, n2, m1.1, m1.2.1, m1.2.2, n1]
      exact congrArg _ m3
    rw [← hK] at d
    exact congrArg some (Prod.ext c1 (Prod.ext c2 d))

/-! ### lambdas: their makers' code objects and the tables of these -/
def codeAt (K : Frg) (f : Addr) : Addr := match K.lookup f with
  | some ⟨_, _, .func fd, _⟩ => (match fd.code with
    | .ref c => c
    | _ => 0)
  | _ => 0
def tabAt (K : Frg) (q : Str) : Addr := He.tabOf K (codeAt K (glAd q K))
theorem codeAt_of {K : Frg} {f : Addr} {oc : Value} {od : Option Addr} {osl : Array (Option Value)} {fd : FuncData} {c : Addr} (lk : K.lookup f = some ⟨oc, od, .func fd, osl⟩) (e : fd.code = .ref c) : codeAt K f = c := by
  unfold codeAt
  rw [lk]
  show (match fd.code with | .ref c => c | _ => 0) = c
  rw [e]
/-- the table is empty, written down nowhere -/
structure LamsAt (qs : List Str) (h : Heap) (K : Frg) : Prop where
  hd : ∀ q ∈ qs, PySem.W.codeHdIn K (codeAt K (glAd q K)) (tabAt K q) = true
  out : ∀ q ∈ qs, K.lookup (tabAt K q) = none
  empty : ∀ q ∈ qs, h.get? (tabAt K q) = some { cls := .none, data := .fields #[] }
  nd : (qs.map (tabAt K)).Nodup
def isEmp : Option Obj → Bool
  | some o => He.emptyTab o
  | none => false
def lamsB (qs : List Str) (g : Addr → Option Obj) (K : Frg) : Bool := (qs.all fun q => PySem.W.codeHdIn K (codeAt K (glAd q K)) (tabAt K q) && isEmp (g (tabAt K q))) && decide (qs.map (tabAt K)).Nodup
theorem lams_of {qs : List Str} {h : Heap} {as : List Addr} (e : lamsB qs h.get? (He.frT h.get? as) = true) : LamsAt qs h (He.frT h.get? as) := by
  obtain ⟨e1, e2⟩ := Bool.and_eq_true_iff.mp e
  have key : ∀ q ∈ qs, PySem.W.codeHdIn (He.frT h.get? as) (codeAt (He.frT h.get? as) (glAd q (He.frT h.get? as))) (tabAt (He.frT h.get? as) q) = true ∧ ∃ o, h.get? (tabAt (He.frT h.get? as) q) = some o ∧ He.emptyTab o = true := fun q hq => by
    obtain ⟨h3, h4⟩ := Bool.and_eq_true_iff.mp (List.all_eq_true.mp e1 q hq)
    refine ⟨h3, ?_⟩
    cases z : h.get? (tabAt (He.frT h.get? as) q) with
    | none =>
      rw [z] at h4
      cases h4
    | some o =>
      rw [z] at h4
      exact ⟨o, rfl, h4⟩
  exact ⟨fun q hq => (key q hq).1, fun q hq => by
    obtain ⟨_, o, z, m⟩ := key q hq
    exact He.frT_none z m, fun q hq => by
    obtain ⟨_, o, z, m⟩ := key q hq
    rw [z, He.emptyTab_eq m], of_decide_eq_true e2⟩
def frMT (n : Nat) (g : Addr → Option Obj) : Frg := He.frT g (cStatics :: He.asD g n)
abbrev AlMT : Type := AlM × Bool
def obsMT (fa : List He.Fa) (ex : Frg → Bool) (fn : List DefM) (qs : List Str) (g : Addr → Option Obj) (K : Frg) : AlMT := (obsM fa ex fn K, lamsB qs g K)
def hookMT (n : Nat) (fa : List He.Fa) (ex : Frg → Bool) (fn : List DefM) (qs : List Str) : PySem.W.Hook where
  α := AlMT
  obs := fun s => obsMT fa ex fn qs s.heap.get? (frMT n s.heap.get?)
  val := fun _ => (valM fn, true)
  says := fun _ h => ∃ K : Frg, K.In h ∧ SaysM fa ex fn K ∧ LamsAt qs h K
  of := fun _ _ e => ⟨_, He.frT_in, congrArg (fun z : AlMT => z.1) e, lams_of (congrArg (fun z : AlMT => z.2) e)⟩
  keeps := fun _ _ _ ⟨K, hK, c, l⟩ k => ⟨K, PySem.W.Frag.In.keeps hK k, c, ⟨l.hd, l.out, fun q hq => k _ _ (l.empty q hq), l.nd⟩⟩
theorem obsMT_eq {n : Nat} {fa : List He.Fa} {ex : Frg → Bool} {fn : List DefM} {qs : List Str} {g : Addr → Option Obj} {s : Shared} (h : ∀ a, g a = s.heap.get? a) : obsMT fa ex fn qs g (frMT n g) = (hookMT n fa ex fn qs).obs s := by
  have e : g = s.heap.get? := funext h
  subst e
  rfl
def lamQ (q : Str) : Str := (q ++ ".<locals>.") ++ "<lambda>"
/-- the tables, and the lambdas' names in them -/
def tbsOf (K : Frg) (qs : List Str) : List (Addr × Str) := qs.map fun q => (tabAt K q, lamQ q)
def csOf (K : Frg) (qs : List Str) : List (Addr × Addr) := qs.map fun q => (codeAt K (glAd q K), tabAt K q)
theorem tbs_one {K : Frg} : ∀ {qs : List Str}, (qs.map (tabAt K)).Nodup → ∀ {q : Str}, q ∈ qs → ∀ p ∈ tbsOf K qs, p.1 = tabAt K q → p.2 = lamQ q
  | x :: qs, nd, q, hq, p, hp, e => by
    rw [List.map_cons, List.nodup_cons] at nd
    have hp : p ∈ (tabAt K x, lamQ x) :: tbsOf K qs := hp
    rcases List.mem_cons.mp hp with z | z
    · rcases List.mem_cons.mp hq with y | y
      · rw [z, y]
      · rw [z] at e
        exact absurd (List.mem_map.mpr ⟨q, y, e.symm⟩) nd.1
    · rcases List.mem_cons.mp hq with y | y
      · obtain ⟨r, hr, rfl⟩ := List.mem_map.mp z
        rw [y] at e
        exact absurd (List.mem_map.mpr ⟨r, hr, e⟩) nd.1
      · exact tbs_one nd.2 y p z e
theorem tbs_mem {K : Frg} {qs : List Str} {q : Str} (h : q ∈ qs) : (tabAt K q, lamQ q) ∈ tbsOf K qs := List.mem_map.mpr ⟨q, h, rfl⟩
theorem tbs_at {K : Frg} {qs : List Str} {H : Hp} (h : ∀ p ∈ csOf K qs, H p.2 = some (.tbl #[])) : LamX.Tabs (tbsOf K qs) H := fun p hp => by
  obtain ⟨q, hq, rfl⟩ := List.mem_map.mp hp
  exact LamX.TabS.nil (h _ (List.mem_map.mpr ⟨q, hq, rfl⟩))
/-- a def that makes a lambda: its code object is known -/
theorem calDT {P : Program} {w : World} {K : PySem.W.Frag} {mg : Str → Option Value} {base : Heap} {x qual : Str} {params : Arguments} {body : List Stmt} {scope : Scope} {f : Addr} {fd : FuncData} {N ps : List Str} {k : Nat} {sp : Sp}
    (F : FunD K x qual params body scope [] [] f fd) (m : mg x = some (.ref f)) (S : FnScope N ps scope)
    (hb : ∀ (kV doc pm : Value) (an : Option Addr) (cdv ct : Value) (us : List Value), us.length = ps.length → bindArgs (PySem.W.fnOf x qual params body scope .none kV doc pm an cdv ct) ⟨us, []⟩ = pure (ps.zip us))
    (len : ∀ vs H Q E, sp vs H Q E → vs.length = ps.length)
    (hbody : ∀ (cdv : Value) (hc : cdv = .ref (codeAt K f)) (A : Around) (outer : List Env) (s : Shared) (H : Hp) (vs : List V) (Q : VK) (E : XK), Room k (A.deeper (envOfC qual scope s.heap.objs.size f cdv)) → sp vs H Q E →
      ∃ t, PSs (cxOf CX0 P w K mg base N qual scope f cdv A outer s H E).nox body t ∧ t { nx := fun _ H' => Q .non H', rt := Q } (start N vs) H) : Cal P w K mg base (k + 1) x sp [] := by
  obtain ⟨oc, od, dV, kV, doc, pm, an, cdv, ct, osl, e, lk, hcd, _, _⟩ := F.ex
  obtain ⟨c, hc⟩ := He.codeIn_ref hcd
  have hk : cdv = .ref (codeAt K f) := by rw [hc, codeAt_of lk (by rw [e]; exact hc)]
  refine ⟨f, fd, ps, [], ?_, m, F.kp, F.bindsN hb, .nil⟩
  subst e
  exact fn_of lk hcd S len fun A outer s H vs Q E hr hsp => by
    obtain ⟨t, h1, h2⟩ := hbody cdv hk A outer s H vs Q E hr hsp
    exact ⟨t, h1.nox, h2⟩

/-! ### the Hook with dicts and with tables of lambdas -/
abbrev AlXT : Type := AlX × Bool
def obsXT (fa : List He.Fa) (ex : Frg → Bool) (fn : List DefM) (ts : List TabX) (qs : List Str) (g : Addr → Option Obj) (K : Frg) : AlXT := (obsX fa ex fn ts K, lamsB qs g K)
def hookXT (l : List Addr) (fa : List He.Fa) (ex : Frg → Bool) (fn : List DefM) (ts : List TabX) (qs : List Str) : PySem.W.Hook where
  α := AlXT
  obs := fun s => obsXT fa ex fn ts qs s.heap.get? (He.frT s.heap.get? l)
  val := fun w => (valX fn ts w, true)
  says := fun w h => ∃ K : Frg, K.In h ∧ SaysX fa ex fn ts w K ∧ LamsAt qs h K
  of := fun _ _ e => ⟨_, He.frT_in, congrArg (fun z : AlXT => z.1) e, lams_of (congrArg (fun z : AlXT => z.2) e)⟩
  keeps := fun _ _ _ ⟨K, hK, c, l⟩ k => ⟨K, PySem.W.Frag.In.keeps hK k, c, ⟨l.hd, l.out, fun q hq => k _ _ (l.empty q hq), l.nd⟩⟩
theorem obsXT_eq {l : List Addr} {fa : List He.Fa} {ex : Frg → Bool} {fn : List DefM} {ts : List TabX} {qs : List Str} {g : Addr → Option Obj} {s : Shared} (h : ∀ a, g a = s.heap.get? a) : obsXT fa ex fn ts qs g (He.frT g l) = (hookXT l fa ex fn ts qs).obs s := by
  have e : g = s.heap.get? := funext h
  subst e
  rfl

/-! ### the defs that make lambdas -/
def lamsL : List Str := ["_in_order"]
theorem lams0 : ("_in_order" : Str) ∈ lamsL := .head _

/-! ### a def that is given as an argument, and called by the parameter's name -/
def tCallN (mg : Str → Option Value) (i : Nat) (y : Str) (sp : Sp) (t : TA) : TE := fun σ H Q => (∃ f, σ[i]? = some (some (.ref f)) ∧ mg y = some (.ref f)) ∧ t σ H fun vs H1 => sp (vs ++ []) H1 Q C8.E0
section
variable {X : Cx} {k j i : Nat} {x y : Str} {sp : Sp} {p pos : Pos} {e : Expr} {es : List Expr} {t : TA}
theorem pe_cL (c : Cal X.prog X.w X.K X.mg X.base k y sp []) (hr : Room j X.A) (hk : k ≤ j) (ha : PA X (e :: es) t)
    (hN : X.N[i]? = some x := by rfl) (hv : Vis X.env.scope x := by first | exact Or.inl rfl | exact Or.inr (Or.inl rfl) | exact Or.inr (Or.inr rfl))
    (hdb : (x == ("__debug__" : Str)) = false := by decide) (hcd : (x == ("__classdict__" : Str)) = false := by decide) (he : starEach (e :: es) X.env = (false, eval e X.env) :: starEach es X.env := by rfl) (hpl : (backTo pos (starEach es X.env)).any (·.1) = false := by rfl) :
    PE X (.Call (.Name x p) (e :: es) [] pos) (tCallN X.mg i y sp t) := by
  refine ⟨fun pins s σ H Q I h => ?_⟩
  obtain ⟨⟨f, hs, hf⟩, ht⟩ := h
  obtain ⟨f', fd, ps, ds, F, hm, kp, b, d⟩ := c.ex
  rw [hm] at hf
  cases hf
  exact (L2.pe_callL (i := i) (f := f) (sp := sp) (dvs := []) (E := C8.E0) F (hr.mono hk) hN hv kp b d pass0 ha hdb hcd he hpl).run pins s σ H Q I ⟨hs, ht⟩
end
theorem r_callN {mg : Str → Option Value} {i : Nat} {y : Str} {sp : Sp} {t : TA} {σ : St} {H : Hp} {Q : VK} {f : Addr} (h1 : σ[i]? = some (some (.ref f))) (h2 : mg y = some (.ref f)) (h : t σ H fun vs H1 => sp (vs ++ []) H1 Q C8.E0) : tCallN mg i y sp t σ H Q := ⟨⟨f, h1, h2⟩, h⟩

/-! ### own classes: made, their fields and methods -/
theorem lk_hit (k : Str) (v : V) (r : List (Str × V)) : List.lookup k ((k, v) :: r) = some v := by simp [List.lookup]
theorem lk_miss {k a : Str} {v : V} {r : List (Str × V)} (h : (a == k) = false) : List.lookup a ((k, v) :: r) = List.lookup a r := by
  show (match a == k with
    | true => some v
    | false => List.lookup a r) = _
  rw [h]
theorem pf_nil (k : Str) (v : V) : putF k v [] = [(k, v)] := rfl
theorem pf_hit (k : Str) (v x : V) (r : List (Str × V)) : putF k v ((k, x) :: r) = (k, v) :: r := if_pos rfl
theorem pf_miss {k g : Str} {v x : V} {r : List (Str × V)} (h : ¬ g = k) : putF k v ((g, x) :: r) = (g, x) :: putF k v r := if_neg h
section
variable {X : Cx} {k j : Nat} {C : Addr} {x m : Str} {sp : Sp} {dvs : List V} {p pos apos : Pos} {e o : Expr} {es : List Expr} {ta : TE} {t : TA}
theorem pe_mk0 (c : Mak X.prog X.w X.K X.mg X.base k x C sp dvs) (hr : Room j X.A) (hk : k + 1 ≤ j) (hg : Gl X x) (hdb : (x == ("__debug__" : Str)) = false := by decide) : PE X (.Call (.Name x p) [] [] pos) (tMake C sp dvs C8.E0 tNil) := by
  obtain ⟨_, _, _, _, M, F, hm, b, d⟩ := c.ex
  exact pe_make0 M F (hr.mono hk) hg hm b d pass0 hdb
/-- a property of the class at C -/
structure Prp (P : Program) (w : World) (K : Frg) (mg : Str → Option Value) (base : Heap) (k : Nat) (C : Addr) (f : Str) (sp : Sp) : Prop where
  ex : ∃ (q g : Addr) (fd : FuncData) (ps : List Str), Cls K C ∧ PropOf K C f q g ∧ FnOk P w K mg base CX0 k g fd ps sp ∧ Binds K fd ps []
theorem pe_pr {f : Str} (c : Prp X.prog X.w X.K X.mg X.base k C f sp) (hr : Room j X.A) (hk : k + 1 ≤ j) (he : PE X o ta) (hab : attributeBase o f X.env (eval o X.env) = eval o X.env := by rfl) : PE X (.Attribute o f pos) (tProp C sp [] C8.E0 ta) := by
  obtain ⟨_, _, _, _, cl, q, F, b⟩ := c.ex
  exact pe_prop he cl q F (hr.mono hk) b .nil pass0 hab
end
section
variable {P : Program} {w : World} {K : Frg} {mg : Str → Option Value} {base : Heap} {x qual : Str} {params : Arguments} {body : List Stmt} {scope : Scope} {f : Addr} {fd : FuncData} {N ps : List Str} {k : Nat} {sp : Sp} {C : Addr}
theorem metD (F : FunD K x qual params body scope [] [] f fd) (cl : Cls K C) (me : Meth K C x f) (S : FnScope N ps scope)
    (hb : ∀ (kV doc pm : Value) (an : Option Addr) (cdv ct : Value) (us : List Value), us.length = ps.length → bindArgs (PySem.W.fnOf x qual params body scope .none kV doc pm an cdv ct) ⟨us, []⟩ = pure (ps.zip us))
    (len : ∀ vs H Q E, sp vs H Q E → vs.length = ps.length)
    (hbody : ∀ (cdv : Value) (A : Around) (outer : List Env) (s : Shared) (H : Hp) (vs : List V) (Q : VK) (E : XK), Room k (A.deeper (envOfC qual scope s.heap.objs.size f cdv)) → sp vs H Q E →
      ∃ t, PSs (cxOf CX0 P w K mg base N qual scope f cdv A outer s H E).nox body t ∧ t { nx := fun _ H' => Q .non H', rt := Q } (start N vs) H) : Met P w K mg base (k + 1) C x sp [] :=
  ⟨f, fd, ps, [], cl, me, fnD F S len hbody, F.bindsN hb, .nil⟩
theorem makD {y : Str} (F : FunD K x qual params body scope [] [] f fd) (M : Mk K C f) (m : mg y = some (.ref C)) (S : FnScope N ps scope)
    (hb : ∀ (kV doc pm : Value) (an : Option Addr) (cdv ct : Value) (us : List Value), us.length = ps.length → bindArgs (PySem.W.fnOf x qual params body scope .none kV doc pm an cdv ct) ⟨us, []⟩ = pure (ps.zip us))
    (len : ∀ vs H Q E, sp vs H Q E → vs.length = ps.length)
    (hbody : ∀ (cdv : Value) (A : Around) (outer : List Env) (s : Shared) (H : Hp) (vs : List V) (Q : VK) (E : XK), Room k (A.deeper (envOfC qual scope s.heap.objs.size f cdv)) → sp vs H Q E →
      ∃ t, PSs (cxOf CX0 P w K mg base N qual scope f cdv A outer s H E).nox body t ∧ t { nx := fun _ H' => Q .non H', rt := Q } (start N vs) H) : Mak P w K mg base (k + 1) y C sp [] :=
  ⟨f, fd, ps, [], M, fnD F S len hbody, m, F.bindsN hb, .nil⟩
theorem prpD {y : Str} {q : Addr} (F : FunD K x qual params body scope [] [] f fd) (cl : Cls K C) (pr : PropOf K C y q f) (S : FnScope N ps scope)
    (hb : ∀ (kV doc pm : Value) (an : Option Addr) (cdv ct : Value) (us : List Value), us.length = ps.length → bindArgs (PySem.W.fnOf x qual params body scope .none kV doc pm an cdv ct) ⟨us, []⟩ = pure (ps.zip us))
    (len : ∀ vs H Q E, sp vs H Q E → vs.length = ps.length)
    (hbody : ∀ (cdv : Value) (A : Around) (outer : List Env) (s : Shared) (H : Hp) (vs : List V) (Q : VK) (E : XK), Room k (A.deeper (envOfC qual scope s.heap.objs.size f cdv)) → sp vs H Q E →
      ∃ t, PSs (cxOf CX0 P w K mg base N qual scope f cdv A outer s H E).nox body t ∧ t { nx := fun _ H' => Q .non H', rt := Q } (start N vs) H) : Prp P w K mg base (k + 1) C y sp :=
  ⟨q, f, fd, ps, cl, pr, fnD F S len hbody, F.bindsN hb⟩
end
section
variable {σ : St} {H : Hp} {n b c : St → Hp → Prop} {r : VK} {Q : VK} {K : Frg} {a C dx : Addr} {fs : List (Str × V)} {f : Str} {v : V}
theorem r_fld {te : TE} (h : te σ H fun x H1 => ∃ a C dx fs v, x = .ref a ∧ H1 a = some (.ins C dx fs) ∧ Cls K C ∧ NoAttr K C f ∧ fs.lookup f = some v ∧ Q v H1) : tFld K te f σ H Q := h
theorem r_fget {R : V → Prop} (h : H a = some (.ins C dx fs)) (cl : Cls K C) (na : NoAttr K C f) (l : fs.lookup f = some v) (q : R v) :
    ∃ a' C dx fs v, V.ref a = .ref a' ∧ H a' = some (.ins C dx fs) ∧ Cls K C ∧ NoAttr K C f ∧ fs.lookup f = some v ∧ R v := ⟨a, C, dx, fs, v, rfl, h, cl, na, l, q⟩
theorem r_sfld {ta tv : TE} (h : tv σ H fun y H1 => ta σ H1 fun x H2 => ∃ a C dx fs, x = .ref a ∧ H2 a = some (.ins C dx fs) ∧ Cls K C ∧ NoAttr K C f ∧ fs.length < 1000 ∧ n σ (upd H2 a (.ins C dx (putF f y fs)))) : sFld K ta tv f ⟨n, r, b, c⟩ σ H := h
theorem r_fset {R : Hp → Prop} {fs' : List (Str × V)} (h : H a = some (.ins C dx fs)) (cl : Cls K C) (na : NoAttr K C f) (hl : fs.length < 1000) (e : putF f v fs = fs') (q : R (upd H a (.ins C dx fs'))) :
    ∃ a' C dx fs, V.ref a = .ref a' ∧ H a' = some (.ins C dx fs) ∧ Cls K C ∧ NoAttr K C f ∧ fs.length < 1000 ∧ R (upd H a' (.ins C dx (putF f v fs))) := ⟨a, C, dx, fs, rfl, h, cl, na, hl, by rw [e]; exact q⟩
theorem r_meth {m : Str} {sp : Sp} {dvs : List V} {E : XK} {ta : TE} {t : TA} (h : ta σ H fun x H1 => ∃ a dx fs, x = .ref a ∧ H1 a = some (.ins C dx fs) ∧ fs.lookup m = none ∧ t σ H1 fun vs H2 => sp (x :: (vs ++ dvs)) H2 Q E) : tMeth C m sp dvs E ta t σ H Q := h
theorem r_mget {m : Str} {R : Prop} (h : H a = some (.ins C dx fs)) (l : fs.lookup m = none) (q : R) : ∃ a' dx fs, V.ref a = .ref a' ∧ H a' = some (.ins C dx fs) ∧ fs.lookup m = none ∧ R := ⟨a, dx, fs, rfl, h, l, q⟩
theorem r_prop {sp : Sp} {dvs : List V} {E : XK} {ta : TE} (h : ta σ H fun x H1 => ∃ a dx fs, x = .ref a ∧ H1 a = some (.ins C dx fs) ∧ sp (.ref a :: dvs) H1 Q E) : tProp C sp dvs E ta σ H Q := h
theorem r_pget {R : Addr → Prop} (h : H a = some (.ins C dx fs)) (q : R a) : ∃ a' dx fs, V.ref a = .ref a' ∧ H a' = some (.ins C dx fs) ∧ R a' := ⟨a, dx, fs, rfl, h, q⟩
theorem r_make {sp : Sp} {dvs : List V} {E : XK} {t : TA} (h : t σ H fun vs H1 => ∀ x dx, H1 x = none → H1 dx = none → dx ≠ x → sp (.ref x :: (vs ++ dvs)) (upd (upd H1 dx (.own x)) x (.ins C dx [])) (fun v H2 => v = .non ∧ Q (.ref x) H2) E) : tMake C sp dvs E t σ H Q := h
end
/-- a class whose __init__ has one default: made with it and without -/
theorem makD1 {P : Program} {w : World} {K : Frg} {mg : Str → Option Value} {base : Heap} {x qual : Str} {params : Arguments} {body : List Stmt} {scope : Scope} {f : Addr} {fd : FuncData} {N ps : List Str} {k : Nat} {sp : Sp} {C : Addr} {y : Str} {v : V} (F : FunD K x qual params body scope [v] [] f fd) (M : Mk K C f) (m : mg y = some (.ref C)) (S : FnScope N ps scope)
    (h1 : ∀ (T : Addr) (kV doc pm : Value) (an : Option Addr) (cdv ct : Value) (us its : List Value), us.length = ps.length - 1 → its.length = [v].length →
      ∃ k, bindArgs (PySem.W.fnOf x qual params body scope (.ref T) kV doc pm an cdv ct) ⟨us, []⟩ = seqItems? (.ref T) >>= k ∧ k (some its.toArray) = pure (ps.zip (us ++ its.drop 0)))
    (h2 : ∀ (T : Addr) (kV doc pm : Value) (an : Option Addr) (cdv ct : Value) (us its : List Value), us.length = ps.length → its.length = [v].length →
      ∃ k, bindArgs (PySem.W.fnOf x qual params body scope (.ref T) kV doc pm an cdv ct) ⟨us, []⟩ = seqItems? (.ref T) >>= k ∧ k (some its.toArray) = pure (ps.zip (us ++ its.drop 1)))
    (len : ∀ vs H Q E, sp vs H Q E → vs.length = ps.length)
    (hbody : ∀ (cdv : Value) (A : Around) (outer : List Env) (s : Shared) (H : Hp) (vs : List V) (Q : VK) (E : XK), Room k (A.deeper (envOfC qual scope s.heap.objs.size f cdv)) → sp vs H Q E →
      ∃ t, PSs (cxOf CX0 P w K mg base N qual scope f cdv A outer s H E).nox body t ∧ t { nx := fun _ H' => Q .non H', rt := Q } (start N vs) H) (hp : 1 ≤ ps.length := by decide) : Mak P w K mg base (k + 1) y C sp [v] ∧ Mak P w K mg base (k + 1) y C sp [] := by
  have ok : FnOk P w K mg base CX0 (k + 1) f fd ps sp := F.ok S len fun cdv A outer s H vs Q E hr h => by
    obtain ⟨t, a1, a2⟩ := hbody cdv A outer s H vs Q E hr h
    exact ⟨t, a1.nox, a2⟩
  obtain ⟨d1, r1, b1⟩ := F.binds1 (ps := ps) (ps.length - 1) 0 (by simp) (by show ps.length - 1 + (1 - 0) = _; omega) h1
  obtain ⟨d2, r2, b2⟩ := F.binds1 (ps := ps) ps.length 1 (by simp) (by show ps.length + (1 - 1) = _; omega) h2
  exact ⟨⟨f, fd, ps, d1, M, ok, m, b1, r1⟩, ⟨f, fd, ps, d2, M, ok, m, b2, r2⟩⟩
/-- .. of a def -/
theorem calD1 {P : Program} {w : World} {K : Frg} {mg : Str → Option Value} {base : Heap} {x qual : Str} {params : Arguments} {body : List Stmt} {scope : Scope} {f : Addr} {fd : FuncData} {N ps : List Str} {k : Nat} {sp : Sp} {v : V} (F : FunD K x qual params body scope [v] [] f fd) (m : mg x = some (.ref f)) (S : FnScope N ps scope)
    (h1 : ∀ (T : Addr) (kV doc pm : Value) (an : Option Addr) (cdv ct : Value) (us its : List Value), us.length = ps.length - 1 → its.length = [v].length →
      ∃ k, bindArgs (PySem.W.fnOf x qual params body scope (.ref T) kV doc pm an cdv ct) ⟨us, []⟩ = seqItems? (.ref T) >>= k ∧ k (some its.toArray) = pure (ps.zip (us ++ its.drop 0)))
    (h2 : ∀ (T : Addr) (kV doc pm : Value) (an : Option Addr) (cdv ct : Value) (us its : List Value), us.length = ps.length → its.length = [v].length →
      ∃ k, bindArgs (PySem.W.fnOf x qual params body scope (.ref T) kV doc pm an cdv ct) ⟨us, []⟩ = seqItems? (.ref T) >>= k ∧ k (some its.toArray) = pure (ps.zip (us ++ its.drop 1)))
    (len : ∀ vs H Q E, sp vs H Q E → vs.length = ps.length)
    (hbody : ∀ (cdv : Value) (A : Around) (outer : List Env) (s : Shared) (H : Hp) (vs : List V) (Q : VK) (E : XK), Room k (A.deeper (envOfC qual scope s.heap.objs.size f cdv)) → sp vs H Q E →
      ∃ t, PSs (cxOf CX0 P w K mg base N qual scope f cdv A outer s H E).nox body t ∧ t { nx := fun _ H' => Q .non H', rt := Q } (start N vs) H) (hp : 1 ≤ ps.length := by decide) : Cal P w K mg base (k + 1) x sp [v] ∧ Cal P w K mg base (k + 1) x sp [] := by
  have ok : FnOk P w K mg base CX0 (k + 1) f fd ps sp := F.ok S len fun cdv A outer s H vs Q E hr h => by
    obtain ⟨t, a1, a2⟩ := hbody cdv A outer s H vs Q E hr h
    exact ⟨t, a1.nox, a2⟩
  obtain ⟨d1, r1, b1⟩ := F.binds1 (ps := ps) (ps.length - 1) 0 (by simp) (by show ps.length - 1 + (1 - 0) = _; omega) h1
  obtain ⟨d2, r2, b2⟩ := F.binds1 (ps := ps) ps.length 1 (by simp) (by show ps.length + (1 - 1) = _; omega) h2
  exact ⟨⟨f, fd, ps, d1, ok, m, F.kp, b1, r1⟩, ⟨f, fd, ps, d2, ok, m, F.kp, b2, r2⟩⟩

/-! ### loops over rows -/
section
variable {X : Cx} {tg iter : Expr}
/-- one of two ways to come by an iterator -/
theorem pi_or {u v : TI} (h1 : PI X tg iter u) (h2 : PI X tg iter v) : PI X tg iter (fun σ H R => u σ H R ∨ v σ H R) := by
  refine ⟨fun pins s σ H R I h => ?_⟩
  rcases h with h | h
  · exact h1.run pins s σ H R I h
  · exact h2.run pins s σ H R I h
end
set_option maxHeartbeats 8000000 in
theorem meets_enum1 {v : Value} {o : Obj} {G : Heap → Prop} (B : Begins v o G) :
    Meets (Builtin.«enumerate.__new__» ⟨[.type "enumerate", v], []⟩) (fun _ R s => G s.heap ∧
      R (.ok (.ret (.ref (s.heap.push o).objs.size))) { s with heap := (s.heap.push o).push { cls := .type "enumerate", data := .fields #[.none, .bool false, .ref s.heap.objs.size, rawInt 0, .none, .none] } }) :=
  .of_wp fun prog w A R s h => by
    obtain ⟨hp, g, d, tk, os⟩ := s
    obtain ⟨h1, h⟩ := h
    have hsub := sub_enumerate
    have q1 : ∀ {A' : Around} {E : Value → Shared → Prop} {Q : Value → Shared → Prop}, Q (.ref hp.objs.size) ⟨hp.push o, g, d, tk, os⟩ → wpAny (model prog w) A' (pyIter v) Q E ⟨hp, g, d, tk, os⟩ :=
      fun q => B.iter prog w _ _ ⟨hp, g, d, tk, os⟩ _ h1 q
    wp_walk using q1
    refine wpAny_stack_any fun st => wpAny_pure ?_
    split
    · rename_i c _ _ _ _ _
      cases (c == Value.type "enumerate")
      · wp_walk using q1
        exact ⟨_, rfl, h⟩
      · wp_walk using q1
        exact ⟨_, rfl, h⟩
    · wp_walk using q1
      exact ⟨_, rfl, h⟩
theorem call_enum1 {prog : Program} {w : World} {A : Around} {E : Value → Shared → Prop} {s : Shared} {v : Value} {o : Obj} {G : Heap → Prop} {Q : Value → Shared → Prop} (B : Begins v o G) (h1 : G s.heap)
    (h : ∀ h', IsEnum h' (s.heap.objs.size + 1) s.heap.objs.size 0 .none → h'.get? s.heap.objs.size = some o → h'.objs.size = s.heap.objs.size + 2 →
      (∀ b o, s.heap.get? b = some o → h'.get? b = some o) → Q (.ref (s.heap.objs.size + 1)) { s with heap := h' }) : wpAny (model prog w) A (call (.type "enumerate") [v]) Q E s := by
  refine callType_new F.called_enumerate (by decide) (F.typeCall_enumerate_1 _) (F.newCall_enumerate_1 _) (fun obj => F.args_object_init_2 obj _) F.entry_enumerate_new (meets_enum1 B) ⟨h1, ?_⟩
  have hz : (s.heap.push o).objs.size = s.heap.objs.size + 1 := Heap.size_push ..
  show _ ∧ _
  rw [hz]
  have he := Heap.get?_push_size (s.heap.push o) (o := { cls := .type "enumerate", data := .fields #[.none, .bool false, .ref s.heap.objs.size, rawInt 0, .none, .none] }) rfl
  rw [hz] at he
  exact ⟨⟨_, he, rfl⟩, h _ he (Heap.get?_push_of_some _ (Heap.get?_push_size _ B.free)) (by rw [Heap.size_push, hz]) fun b o x => Heap.get?_push_of_some _ (Heap.get?_push_of_some _ x)⟩
/-- the tuple at a, each item in a new pair -/
def Itet (K : PySem.W.Frag) (a : Addr) (xs : List V) : It :=
  ⟨fun i H => SqT K H a xs ∧ i < xs.length, fun i H v H' => ∃ T x, v = .ref T ∧ H T = none ∧ H' = upd H T (.tup [.int (i : Nat), x]) ∧ xs[i]? = some x, fun i H => SqT K H a xs ∧ xs.length ≤ i⟩
theorem turn_enumT {P : Program} {w : World} {K : PySem.W.Frag} {elts : List Expr} {kk : Nat} {tpos : Pos} (a e it : Addr) (xs : List V) (hta : a ≠ it) :
    Turn P w K (.Tuple elts kk tpos) (Itet K a xs) [e, it] e (fun i h => (∃ old, IsEnum h e it ((i : Nat) : Int) old) ∧ h.IsTupleIter it a i ∧ e ≠ it ∧ i ≤ xs.length) where
  mem := by simp
  obj := fun i h st b hb => by
    obtain ⟨⟨old, he⟩, ⟨o, ho, hc, hd⟩, _⟩ := st
    have e' : b = e ∨ b = it := by simpa using hb
    rcases e' with z | z
    · rw [z]
      exact ⟨_, he, fun v q => nomatch q⟩
    · rw [z]
      exact ⟨o, ho, fun v q => by rw [hd] at q; cases q⟩
  keep := fun i h h' st k => let ⟨⟨old, he⟩, hi, hne, hn⟩ := st; ⟨⟨old, k e (by simp) _ he⟩, hi.at fun o q => k it (by simp) o q, hne, hn⟩
  item := by
    intro X hP hw hK hc i pins s σ H E I hf st hg
    subst hP hw hK
    obtain ⟨⟨old, he⟩, hit, hne, hn⟩ := st
    obtain ⟨hq, hlt⟩ := hg
    obtain ⟨its, rv, p, hz⟩ := I.tuple hq
    have p' : s.heap.IsTuple a its.toArray := p
    have hl := rv.length
    have hel : e < s.heap.objs.size := Heap.lt_size he
    have hil : it < s.heap.objs.size := by
      obtain ⟨_, q, _⟩ := hit
      exact Heap.lt_size q
    have hea : e ≠ a := fun q => by
      obtain ⟨o, ho, hc', _⟩ := p'
      rw [← q, he] at ho
      cases ho
      have z : Value.type "enumerate" = Value.type "tuple" := hc'
      injection z with z
      exact absurd z (by decide)
    have D := Draws.tuple (prog := X.prog) (w := X.w) (A := X.A.in1) (I.ok.hd hc) it a hta its.toArray
    refine wpAny_pyNext_enum_itemD D he ⟨hit, p'⟩ (by simpa [← hl] using hlt) hne (by simp [hne, hea]) fun u h' tk hu ho hs' hT hsz hk => ?_
    obtain ⟨x, hx, ru⟩ : ∃ x, xs[i]? = some x ∧ RelV x u := by
      obtain ⟨u', hu', r'⟩ := rv.get (List.getElem?_eq_getElem hlt)
      have e1 : its[i]? = some u := by simpa using hu
      rw [e1] at hu'
      cases hu'
      exact ⟨_, List.getElem?_eq_getElem hlt, r'⟩
    refine ⟨_, rfl, wpAny_letOwnedTupleGo_enum (s := { s with heap := h', toks := tk + 1 }) ho fun h'' he' sb => ?_⟩
    have hT2 : h''.get? s.heap.objs.size = some { cls := .type "tuple", data := .seq #[.int i tk, u] } := (sb.2 _ (Nat.ne_of_gt hel)).trans hT
    have new : ObjOk X.prog X.w (upd H s.heap.objs.size (.tup [.int (i : Nat), x])) h'' s.heap.objs.size (.tup [.int (i : Nat), x]) :=
      ⟨by show 2 ≤ sizeLine; decide, [.int i tk, u], .cons ⟨_, rfl⟩ (.cons ru .nil), ⟨_, hT2, rfl, _, rfl⟩⟩
    have I1 : Inv X pins σ (upd H s.heap.objs.size (.tup [.int (i : Nat), x])) { s with heap := h'', toks := tk + 1 } :=
      I.turnedNew (ch := [e, it]) (fun b ob hb q => (sb.2 b (fun z => hb (by simp [z]))).trans (hk b ob (fun z => hb (by simp [z])) (fun z => hb (by simp [z])) q)) hf (Nat.le_refl _) new
    refine ⟨.ref s.heap.objs.size, _, I1, rfl, ⟨_, x, rfl, I.hok.fresh (Nat.le_refl _), rfl, hx⟩, ⟨⟨u, ?_⟩, hs'.1.at fun o q => (sb.2 it (Ne.symm hne)).trans q, hne, hlt⟩, fun b hb => ?_⟩
    · have e1 : ((i + 1 : Nat) : Int) = (i : Int) + 1 := by omega
      rw [e1]
      exact he'
    · have hb' : b < s.heap.objs.size := by
        have e' : b = e ∨ b = it := by simpa using hb
        rcases e' with z | z
        · rw [z]
          exact hel
        · rw [z]
          exact hil
      rw [upd_ne (Nat.ne_of_lt hb')]
      exact (hf b hb).1
  done := by
    intro X hP hw hK hc i pins s σ H E I hf st hg
    subst hP hw hK
    obtain ⟨⟨old, he⟩, hit, hne, hn⟩ := st
    obtain ⟨hq, hx⟩ := hg
    obtain ⟨its, rv, p, hz⟩ := I.tuple hq
    have p' : s.heap.IsTuple a its.toArray := p
    obtain ⟨f0, f1, f2, f3, f4, f5⟩ := hf it (by simp)
    have hl := rv.length
    have hi : i = its.toArray.size := by
      simp
      omega
    subst hi
    have D := Draws.tuple (prog := X.prog) (w := X.w) (A := X.A.in1) (I.ok.hd hc) it a hta its.toArray
    exact wpAny_pyNext_enum_endD D he ⟨hit, p'⟩ fun h' eb => ⟨rfl, I.turned (t' := s.toks) (fun b o hb q => eb b o hb q) f0 f1 f3 f4 f5⟩
  self := fun A i s Q E st h => let ⟨⟨_, he⟩, _⟩ := st; wpAny_pyIter_enum he h
def iEnumT (K : PySem.W.Frag) (ta : TA) : TI := fun σ H R => ta σ H fun vs H1 => ∃ a xs, vs = [.ref a] ∧ SqT K H1 a xs ∧ R (Itet K a xs) H1
theorem pi_enumT {X : Cx} {e : Expr} {ta : TA} {p pos tpos : Pos} {elts : List Expr} {kk : Nat} (hg : Gl X "enumerate") (hm : X.mg "enumerate" = none) (ha : PA X [e] ta) (hs : starEach [e] X.env = [(false, eval e X.env)] := by rfl) :
    PI X (.Tuple elts kk tpos) (.Call (.Name "enumerate" p) [e] [] pos) (iEnumT X.K ta) := by
  refine ⟨fun pins s σ H R I h => ?_⟩
  refine PyProof.Rows.Call_ (ld_blt I hg hm PyProof.Rows.boot_enumerate (PyProof.Rows.callWith_type1 (thn (ha.run pos pins s σ H _ I h) fun us s1 ⟨vs, H1, I1, r1, q1⟩ => ?_) hs rfl))
  obtain ⟨a, xs, ex, hq, q⟩ := q1
  subst ex
  cases r1 with
  | cons r rr =>
    cases rr
    cases r
    obtain ⟨its, rv, p', hz⟩ := I1.tuple hq
    have p2 : s1.heap.IsTuple a its.toArray := p'
    refine call_enum1 (begins_tuple a its.toArray) p2 fun h' he hit hsz hk => wpAny_pyIter_enum he ?_
    have I2 : Inv X pins σ H1 { s1 with heap := h' } := I1.kept (t' := s1.toks) hk
    have hal : a < s1.heap.objs.size := by
      obtain ⟨_, q, _⟩ := p2
      exact Heap.lt_size q
    refine ⟨s1.heap.objs.size + 1, [s1.heap.objs.size + 1, s1.heap.objs.size], _, _, H1, rfl, I2, turn_enumT a (s1.heap.objs.size + 1) s1.heap.objs.size xs (Nat.ne_of_lt hal), ⟨⟨.none, he⟩, ⟨_, hit, rfl, rfl⟩, Nat.succ_ne_self _, Nat.zero_le _⟩, fun b hb => ?_, q⟩
    have e' : b = s1.heap.objs.size + 1 ∨ b = s1.heap.objs.size := by simpa using hb
    have hle : s1.heap.objs.size ≤ b := by
      rcases e' with z | z
      · rw [z]
        exact Nat.le_add_right _ _
      · rw [z]
        exact Nat.le_refl _
    exact I1.fpOk hle (I1.hok.fresh hle)
/-! ### the turns of such loops -/
section
variable {σ : St} {H : Hp} {n b c : St → Hp → Prop} {r : VK} {Q : VK} {K : PySem.W.Frag}
theorem r_each {J : It} {g : TG} {tb : TS} (N : Nat) (Pv : Nat → St → Hp → Prop) (h0 : Pv 0 σ H)
    (hs : ∀ (i : Nat) σ H, i < N → Pv i σ H → J.go i H ∧ ∀ x H', J.yld i H x H' → g x σ H' fun σ2 H2 => tb ⟨Pv (i + 1), r, n, Pv (i + 1)⟩ σ2 H2) (hd : ∀ σ H, Pv N σ H → J.stop N H ∧ n σ H) :
    ∃ W : Nat → Nat → St → Hp → Prop, (∃ m, W 0 m σ H) ∧ ∀ i m σ H, W i m σ H →
    (J.stop i H ∧ n σ H) ∨ (J.go i H ∧ ∃ N : St → Hp → Prop, (∀ σ' H', N σ' H' → ∃ m', m' < m ∧ W (i + 1) m' σ' H') ∧ ∀ x H', J.yld i H x H' → g x σ H' fun σ2 H2 => tb ⟨N, r, n, N⟩ σ2 H2) := by
  refine ⟨fun i m σ H => i ≤ N ∧ m = N - i ∧ Pv i σ H, ⟨N, Nat.zero_le _, rfl, h0⟩, fun i m σ H ⟨hi, hm, hp⟩ => ?_⟩
  by_cases c : i < N
  · obtain ⟨h1, h2⟩ := hs i σ H c hp
    exact .inr ⟨h1, Pv (i + 1), fun σ' H' q => ⟨N - (i + 1), by omega, c, rfl, q⟩, h2⟩
  · have e : i = N := by omega
    subst e
    exact .inl (hd σ H hp)
/-- a for over a list -/
theorem r_eachL {g : TG} {tb : TS} {a : Addr} {xs : List V} (Pv : Nat → St → Hp → Prop) (h0 : Pv 0 σ H) (hl : ∀ i σ H, Pv i σ H → SqL K H a xs)
    (hs : ∀ (i : Nat) x σ H, xs[i]? = some x → Pv i σ H → g x σ H fun σ2 H2 => tb ⟨Pv (i + 1), r, n, Pv (i + 1)⟩ σ2 H2) (hd : ∀ σ H, Pv xs.length σ H → n σ H) :
    ∃ W : Nat → Nat → St → Hp → Prop, (∃ m, W 0 m σ H) ∧ ∀ i m σ H, W i m σ H →
    ((Itl K a).stop i H ∧ n σ H) ∨ ((Itl K a).go i H ∧ ∃ N : St → Hp → Prop, (∀ σ' H', N σ' H' → ∃ m', m' < m ∧ W (i + 1) m' σ' H') ∧ ∀ x H', (Itl K a).yld i H x H' → g x σ H' fun σ2 H2 => tb ⟨N, r, n, N⟩ σ2 H2) := by
  refine r_each xs.length Pv h0 (fun i σ H hi p => ⟨⟨xs, xs[i], hl i σ H p, List.getElem?_eq_getElem hi⟩, ?_⟩) fun σ H p => ⟨⟨xs, hl _ σ H p, Nat.le_refl _⟩, hd σ H p⟩
  rintro x _ ⟨rfl, e⟩
  exact hs i x σ _ (e xs (hl i σ _ p)) p
/-- .. a tuple -/
theorem r_eachT {g : TG} {tb : TS} {a : Addr} {xs : List V} (Pv : Nat → St → Hp → Prop) (h0 : Pv 0 σ H) (hl : ∀ i σ H, Pv i σ H → SqT K H a xs)
    (hs : ∀ (i : Nat) x σ H, xs[i]? = some x → Pv i σ H → g x σ H fun σ2 H2 => tb ⟨Pv (i + 1), r, n, Pv (i + 1)⟩ σ2 H2) (hd : ∀ σ H, Pv xs.length σ H → n σ H) :
    ∃ W : Nat → Nat → St → Hp → Prop, (∃ m, W 0 m σ H) ∧ ∀ i m σ H, W i m σ H →
    ((Itt K a).stop i H ∧ n σ H) ∨ ((Itt K a).go i H ∧ ∃ N : St → Hp → Prop, (∀ σ' H', N σ' H' → ∃ m', m' < m ∧ W (i + 1) m' σ' H') ∧ ∀ x H', (Itt K a).yld i H x H' → g x σ H' fun σ2 H2 => tb ⟨N, r, n, N⟩ σ2 H2) := by
  refine r_each xs.length Pv h0 (fun i σ H hi p => ⟨⟨xs, xs[i], hl i σ H p, List.getElem?_eq_getElem hi⟩, ?_⟩) fun σ H p => ⟨⟨xs, hl _ σ H p, Nat.le_refl _⟩, hd σ H p⟩
  rintro x _ ⟨rfl, e⟩
  exact hs i x σ _ (e xs (hl i σ _ p)) p
/-- .. with the numbers of the turns -/
theorem r_eachE {g : TG} {tb : TS} {a : Addr} {xs : List V} (Pv : Nat → St → Hp → Prop) (h0 : Pv 0 σ H) (hl : ∀ i σ H, Pv i σ H → SqL K H a xs)
    (hs : ∀ (i : Nat) x σ H T, xs[i]? = some x → Pv i σ H → H T = none → g (.ref T) σ (upd H T (.tup [.int (i : Nat), x])) fun σ2 H2 => tb ⟨Pv (i + 1), r, n, Pv (i + 1)⟩ σ2 H2) (hd : ∀ σ H, Pv xs.length σ H → n σ H) :
    ∃ W : Nat → Nat → St → Hp → Prop, (∃ m, W 0 m σ H) ∧ ∀ i m σ H, W i m σ H →
    ((Ite K a).stop i H ∧ n σ H) ∨ ((Ite K a).go i H ∧ ∃ N : St → Hp → Prop, (∀ σ' H', N σ' H' → ∃ m', m' < m ∧ W (i + 1) m' σ' H') ∧ ∀ x H', (Ite K a).yld i H x H' → g x σ H' fun σ2 H2 => tb ⟨N, r, n, N⟩ σ2 H2) := by
  refine r_each xs.length Pv h0 (fun i σ H hi p => ⟨⟨xs, xs[i], hl i σ H p, List.getElem?_eq_getElem hi⟩, ?_⟩) fun σ H p => ⟨⟨xs, hl _ σ H p, Nat.le_refl _⟩, hd σ H p⟩
  rintro _ _ ⟨T, x, rfl, hT, rfl, e⟩
  exact hs i x σ _ T (e xs (hl i σ _ p)) p hT
theorem r_eachET {g : TG} {tb : TS} {a : Addr} {xs : List V} (Pv : Nat → St → Hp → Prop) (h0 : Pv 0 σ H) (hl : ∀ i σ H, Pv i σ H → SqT K H a xs)
    (hs : ∀ (i : Nat) x σ H T, xs[i]? = some x → Pv i σ H → H T = none → g (.ref T) σ (upd H T (.tup [.int (i : Nat), x])) fun σ2 H2 => tb ⟨Pv (i + 1), r, n, Pv (i + 1)⟩ σ2 H2) (hd : ∀ σ H, Pv xs.length σ H → n σ H) :
    ∃ W : Nat → Nat → St → Hp → Prop, (∃ m, W 0 m σ H) ∧ ∀ i m σ H, W i m σ H →
    ((Itet K a xs).stop i H ∧ n σ H) ∨ ((Itet K a xs).go i H ∧ ∃ N : St → Hp → Prop, (∀ σ' H', N σ' H' → ∃ m', m' < m ∧ W (i + 1) m' σ' H') ∧ ∀ x H', (Itet K a xs).yld i H x H' → g x σ H' fun σ2 H2 => tb ⟨N, r, n, N⟩ σ2 H2) := by
  refine r_each xs.length Pv h0 (fun i σ H hi p => ⟨⟨hl i σ H p, hi⟩, ?_⟩) fun σ H p => ⟨⟨hl _ σ H p, Nat.le_refl _⟩, hd σ H p⟩
  rintro _ _ ⟨T, x, rfl, hT, rfl, e⟩
  exact hs i x σ _ T e p hT
/-- .. of range(i, j, c) -/
theorem r_eachR {g : TG} {tb : TS} {i0 j0 c0 : Int} (k : Nat) (hc : RgC i0 j0 c0 k) (Pv : Nat → St → Hp → Prop) (h0 : Pv 0 σ H)
    (hs : ∀ (i : Nat) σ H, i < k → Pv i σ H → g (.int (i0 + i * c0)) σ H fun σ2 H2 => tb ⟨Pv (i + 1), r, n, Pv (i + 1)⟩ σ2 H2) (hd : ∀ σ H, Pv k σ H → n σ H) :
    RgC i0 j0 c0 k ∧ ∃ W : Nat → Nat → St → Hp → Prop, (∃ m, W 0 m σ H) ∧ ∀ i m σ H, W i m σ H →
    ((Itc i0 c0 k).stop i H ∧ n σ H) ∨ ((Itc i0 c0 k).go i H ∧ ∃ N : St → Hp → Prop, (∀ σ' H', N σ' H' → ∃ m', m' < m ∧ W (i + 1) m' σ' H') ∧ ∀ x H', (Itc i0 c0 k).yld i H x H' → g x σ H' fun σ2 H2 => tb ⟨N, r, n, N⟩ σ2 H2) := by
  refine ⟨hc, r_each k Pv h0 (fun i σ H hi p => ⟨hi, ?_⟩) fun σ H p => ⟨Nat.le_refl _, hd σ H p⟩⟩
  rintro _ _ ⟨rfl, rfl⟩
  exact hs i σ _ hi p
theorem r_rng2 {ta : TA} {R : It → Hp → Prop} (h : ta σ H fun vs H1 => ∃ i j : Int, vs = [.int i, .int j] ∧ (-(2 ^ 62) ≤ i ∧ i < 2 ^ 62 ∧ -(2 ^ 62) ≤ j ∧ j < 2 ^ 62) ∧ R (Itr i (j - i).toNat) H1) : iRng2 ta σ H R := h
theorem r_rng3 {ta : TA} {R : It → Hp → Prop} (h : ta σ H fun vs H1 => ∃ (i j c : Int) (n : Nat), vs = [.int i, .int j, .int c] ∧ RgC i j c n ∧ R (Itc i c n) H1) : iRng3 ta σ H R := h
theorem r_itL {tl : TE} {R : It → Hp → Prop} (h : tl σ H fun x H1 => ∃ a, x = .ref a ∧ (∃ xs, SqL K H1 a xs) ∧ R (Itl K a) H1) : iList K tl σ H R := h
theorem r_itT {tl : TE} {R : It → Hp → Prop} (h : tl σ H fun x H1 => ∃ a, x = .ref a ∧ (∃ xs, SqT K H1 a xs) ∧ R (Itt K a) H1) : iTup K tl σ H R := h
theorem r_itE {ta : TA} {R : It → Hp → Prop} (h : ta σ H fun vs H1 => ∃ a xs, vs = [.ref a] ∧ SqL K H1 a xs ∧ R (Ite K a) H1) : iEnum K ta σ H R := h
theorem r_itET {ta : TA} {R : It → Hp → Prop} (h : ta σ H fun vs H1 => ∃ a xs, vs = [.ref a] ∧ SqT K H1 a xs ∧ R (Itet K a xs) H1) : iEnumT K ta σ H R := h
theorem r_eqB {i j : Bool} (h : Q (.bl (decide (i = j))) H) : rEq (.bl i) (.bl j) H Q := by
  have e : decide (V.bl i = V.bl j) = decide (i = j) := by simp
  exact ⟨rfl, by rw [e]; exact h⟩
theorem r_neB {i j : Bool} (h : Q (.bl (!decide (i = j))) H) : rNe (.bl i) (.bl j) H Q := by
  have e : decide (V.bl i = V.bl j) = decide (i = j) := by simp
  exact ⟨rfl, by rw [e]; exact h⟩
end
/-- an if whose test is known -/
theorem r_ifB {σ : St} {H : Hp} {D : Ends} {tt : TT} {t u : TS} (b : Bool) (ht : ∀ R : Bool → Hp → Prop, R b H → tt σ H R) (h : if b = true then t D σ H else u D σ H) : tIfS tt t u D σ H := ht _ h

/-! ### an attribute as a target among others -/
section
variable {X : Cx} {o : Expr} {ta : TE} {f : Str} {pos : Pos}
def gFld (K : PySem.W.Frag) (ta : TE) (f : Str) : TG := fun v σ H R => ta σ H fun x H1 => ∃ a C dx fs, x = .ref a ∧ H1 a = some (.ins C dx fs) ∧ Cls K C ∧ NoAttr K C f ∧ fs.length < 1000 ∧ R σ (upd H1 a (.ins C dx (putF f v fs)))
theorem pg_fld (ha : PE X o ta) : PG X (.Attribute o f pos) (gFld X.K ta f) := by
  refine ⟨fun pins s σ H v u Q I r h => ?_⟩
  rw [assign_Attribute]
  refine wpAny_bind (wpAny_holding (thn (ha.run pins s σ H _ I h) fun ov s2 ⟨x, H2, I2, rx, a, C, dx, fs, ex, ea, c, n, l, q2⟩ => ?_))
  subst ex
  obtain rfl : ov = Value.ref a := rx
  refine wpAny_bind (wpAny_standAt (wpAny_bind (wpAny_holding ?_)))
  exact setattr_ok I2 ea c n l r fun s3 I3 => wpAny_release ⟨σ, _, I3, q2⟩
end

local macro_rules | `(tactic| walk_at "rv") => `(tactic| ((with_reducible apply r_var); (· rfl)))
local macro_rules | `(tactic| walk_at "rd1") => `(tactic| first
  | (with_reducible refine r_seq ?_)
  | (with_reducible refine r_asg ?_)
  | (with_reducible refine r_name ?_)
  | ((with_reducible apply r_var); (· rfl))
  | (with_reducible refine r_c ?_)
  | (with_reducible refine r_op ?_)
  | (with_reducible refine r_I0 ?_)
  | (with_reducible refine r_eqI ?_)
  | (with_reducible refine r_neI ?_)
  | (with_reducible refine r_eqS ?_)
  | (with_reducible refine r_neS ?_)
  | (with_reducible refine r_cons ?_)
  | (with_reducible refine r_nil ?_)
  | (with_reducible refine r_if ?_)
  | (with_reducible refine r_test ?_)
  | (with_reducible refine r_B ?_)
  | (with_reducible refine r_bl ?_)
  | (with_reducible refine r_ret ?_)
  | (with_reducible refine r_drop ?_)
  | (with_reducible refine r_un ?_)
  | (with_reducible refine r_U ?_)
  | (with_reducible refine r_CB ?_)
  | (with_reducible refine r_call ?_)
  | (with_reducible refine r_retN ?_)
  | (with_reducible refine r_next ?_)
  | (with_reducible refine r_brk ?_)
  | (with_reducible refine r_ifE ?_)
  | (with_reducible refine r_and ?_)
  | (with_reducible refine r_or ?_)
  | (with_reducible refine r_not ?_)
  | (with_reducible refine r_andV ?_)
  | (with_reducible refine r_orV ?_)
  | (with_reducible refine r_notV ?_)
  | (with_reducible refine r_chain ?_)
  | (with_reducible refine r_iteF ?_)
  | (with_reducible refine r_iteT ?_)
  | (with_reducible refine r_iteNT ?_)
  | (with_reducible refine r_iteNF ?_)
  | ((with_reducible apply r_I); (· first | decide | exact ⟨by decide, by decide⟩ | exact .inr ⟨by decide, by decide⟩ | exact .inl ⟨by decide, by decide⟩ | exact ⟨by decide, by decide, by decide⟩))
  | (with_reducible refine r_bm ?_)
  | (with_reducible refine r_bm0 ?_)
  | (with_reducible refine r_sub ?_)
  | (with_reducible refine r_yes ?_)
  | (with_reducible refine r_fld ?_)
  | (with_reducible refine r_sfld ?_)
  | (with_reducible refine r_meth ?_)
  | (with_reducible refine r_prop ?_)
  | (with_reducible refine r_make ?_)
  | (with_reducible refine r_gcons ?_)
  | (with_reducible refine r_gnil ?_)
  | (with_reducible refine r_rfl ?_)
  | (with_reducible refine r_for ?_)
  | (with_reducible refine r_rng1 ?_)
  | (with_reducible refine r_int1 ?_)
  | (with_reducible refine r_abs ?_)
  | (with_reducible refine r_tup ?_)
  | (with_reducible refine r_lst ?_))
local macro_rules | `(tactic| walk_at "rd") => `(tactic| repeat (walk_at "rd1"))
local macro_rules | `(tactic| walk_at "ri1") => `(tactic| first
  | (with_reducible refine r_seq ?_)
  | (with_reducible refine r_asg ?_)
  | (with_reducible refine r_name ?_)
  | ((with_reducible apply r_var); (· rfl))
  | (with_reducible refine r_c ?_)
  | (with_reducible refine r_op ?_)
  | (with_reducible refine r_I0 ?_)
  | (with_reducible refine r_eqI ?_)
  | (with_reducible refine r_neI ?_)
  | (with_reducible refine r_eqS ?_)
  | (with_reducible refine r_neS ?_)
  | (with_reducible refine r_cons ?_)
  | (with_reducible refine r_nil ?_)
  | (with_reducible refine r_test ?_)
  | (with_reducible refine r_B ?_)
  | (with_reducible refine r_bl ?_)
  | (with_reducible refine r_ret ?_)
  | (with_reducible refine r_drop ?_)
  | (with_reducible refine r_un ?_)
  | (with_reducible refine r_U ?_)
  | (with_reducible refine r_CB ?_)
  | (with_reducible refine r_call ?_)
  | (with_reducible refine r_retN ?_)
  | (with_reducible refine r_next ?_)
  | (with_reducible refine r_brk ?_)
  | (with_reducible refine r_ifE ?_)
  | (with_reducible refine r_and ?_)
  | (with_reducible refine r_or ?_)
  | (with_reducible refine r_not ?_)
  | (with_reducible refine r_andV ?_)
  | (with_reducible refine r_orV ?_)
  | (with_reducible refine r_notV ?_)
  | (with_reducible refine r_chain ?_)
  | (with_reducible refine r_iteF ?_)
  | (with_reducible refine r_iteT ?_)
  | (with_reducible refine r_iteNT ?_)
  | (with_reducible refine r_iteNF ?_)
  | ((with_reducible apply r_I); (· first | decide | exact ⟨by decide, by decide⟩ | exact .inr ⟨by decide, by decide⟩ | exact .inl ⟨by decide, by decide⟩ | exact ⟨by decide, by decide, by decide⟩))
  | (with_reducible refine r_bm ?_)
  | (with_reducible refine r_bm0 ?_)
  | (with_reducible refine r_sub ?_)
  | (with_reducible refine r_yes ?_)
  | (with_reducible refine r_fld ?_)
  | (with_reducible refine r_sfld ?_)
  | (with_reducible refine r_meth ?_)
  | (with_reducible refine r_prop ?_)
  | (with_reducible refine r_make ?_)
  | (with_reducible refine r_gcons ?_)
  | (with_reducible refine r_gnil ?_)
  | (with_reducible refine r_rfl ?_)
  | (with_reducible refine r_for ?_)
  | (with_reducible refine r_rng1 ?_)
  | (with_reducible refine r_int1 ?_)
  | (with_reducible refine r_abs ?_)
  | (with_reducible refine r_tup ?_)
  | (with_reducible refine r_lst ?_))
local macro_rules | `(tactic| walk_at "ri") => `(tactic| repeat (walk_at "ri1"))

abbrev C_Unwritable (K : Frg) : Addr := He.ga K "Unwritable"
abbrev C_AlikeError (K : Frg) : Addr := He.ga K "AlikeError"
abbrev C_Unreadable (K : Frg) : Addr := He.ga K "Unreadable"
structure Nm (w : World) (K : Frg) (mg : Str → Option Value) : Prop where
  range : mg "range" = none
  len : mg "len" = none
  list : mg "list" = none
  tuple : mg "tuple" = none
  enumerate : mg "enumerate" = none
  sorted : mg "sorted" = none
  abs : mg "abs" = none
  int : mg "int" = none
  isinstance : mg "isinstance" = none
  repr : mg "repr" = none
  g_WIDTHS : ∃ v u, mg "WIDTHS" = some u ∧ RelV v u ∧ ∃ a, v = .ref a ∧ TabAt K w a (([.inl 24, .inl 25, .inl 26, .inl 27] : List Key).zip ([.int 1, .int 2, .int 4, .int 8] : List V))
  g_MARKS : ∃ v u, mg "MARKS" = some u ∧ RelV v u ∧ ∀ H, Dp K H v (.tuple [.int 0, .int 192, .int 224, .int 240])
  g_LARGEST_EXPONENT : ∃ u, mg "LARGEST_EXPONENT" = some u ∧ RelV (.int 1000000000) u
  g_SIMPLE : ∃ u, mg "SIMPLE" = some u ∧ RelV (.int 7) u
  g_NULL_INFO : ∃ u, mg "NULL_INFO" = some u ∧ RelV (.int 22) u
  g_TRUE_INFO : ∃ u, mg "TRUE_INFO" = some u ∧ RelV (.int 21) u
  g_FALSE_INFO : ∃ u, mg "FALSE_INFO" = some u ∧ RelV (.int 20) u
  g_BYTES : ∃ u, mg "BYTES" = some u ∧ RelV (.int 2) u
  g_TEXT : ∃ u, mg "TEXT" = some u ∧ RelV (.int 3) u
  g_LARGEST_SCALE : ∃ u, mg "LARGEST_SCALE" = some u ∧ RelV (.int 64) u
  g_TAG : ∃ u, mg "TAG" = some u ∧ RelV (.int 6) u
  g_DECIMAL_TAG : ∃ u, mg "DECIMAL_TAG" = some u ∧ RelV (.int 4) u
  g_LIST : ∃ u, mg "LIST" = some u ∧ RelV (.int 4) u
  g_FIRST_LARGE : ∃ u, mg "FIRST_LARGE" = some u ∧ RelV (.int 18446744073709551616) u
  g_NEGATIVE_TAG : ∃ u, mg "NEGATIVE_TAG" = some u ∧ RelV (.int 3) u
  g_POSITIVE_TAG : ∃ u, mg "POSITIVE_TAG" = some u ∧ RelV (.int 2) u
  g_NEGATIVE : ∃ u, mg "NEGATIVE" = some u ∧ RelV (.int 1) u
  g_POSITIVE : ∃ u, mg "POSITIVE" = some u ∧ RelV (.int 0) u
  g_MAP : ∃ u, mg "MAP" = some u ∧ RelV (.int 5) u
  g_Unwritable : mg "Unwritable" = some (.ref (C_Unwritable K))
  x_Unwritable : ExcK K (C_Unwritable K) (meAd "AlikeError" "__init__" K) "what"
  g_AlikeError : mg "AlikeError" = some (.ref (C_AlikeError K))
  x_AlikeError : ExcK K (C_AlikeError K) (meAd "AlikeError" "__init__" K) "what"
  g_Unreadable : mg "Unreadable" = some (.ref (C_Unreadable K))
  x_Unreadable : ExcK K (C_Unreadable K) (meAd "AlikeError" "__init__" K) "what"
  y_Unwritable : IsxC K (C_Unwritable K)
  e_Unwritable_AlikeError : PySem.W.exmOne K (.ref (C_Unwritable K)) (.ref (C_AlikeError K)) = some true
  i_Unwritable_Unreadable : PySem.W.kitOne K (.ref (C_Unwritable K)) (.ref (C_Unreadable K)) = some false
  i_Unwritable_Unwritable : PySem.W.kitOne K (.ref (C_Unwritable K)) (.ref (C_Unwritable K)) = some true
  f_is_lacking : mg "is_lacking" = some (.ref (glAd "is_lacking" K))
  dig : DigK K

abbrev s_is_lacking : Stmt := (top 31)
theorem sc_is_lacking : FnScope ["value"] ["value"] (defScope s_is_lacking) := ⟨rfl, rfl, rfl, by decide +kernel, rfl, by decide +kernel, by decide +kernel⟩
abbrev s_parts : Stmt := (top 41)
theorem sc_parts : FnScope ["value", "entry"] ["value"] (defScope s_parts) := ⟨rfl, rfl, rfl, by decide +kernel, rfl, by decide +kernel, by decide +kernel⟩
abbrev s_walk : Stmt := (top 42)
theorem sc_walk : GScope ["value", "waiting", "found"] ["value"] (defScope s_walk) := ⟨rfl, rfl, rfl, by decide +kernel, rfl, by decide +kernel, by decide +kernel⟩
abbrev s_first_lacking : Stmt := (top 44)
theorem sc_first_lacking : FnScope ["value", "is_lacking", "index", "found"] ["value", "is_lacking"] (defScope s_first_lacking) := ⟨rfl, rfl, rfl, by decide +kernel, rfl, by decide +kernel, by decide +kernel⟩
abbrev s_cbor_lacks : Stmt := (top 48)
theorem sc_cbor_lacks : FnScope ["value"] ["value"] (defScope s_cbor_lacks) := ⟨rfl, rfl, rfl, by decide +kernel, rfl, by decide +kernel, by decide +kernel⟩
abbrev s__law_cell : Stmt := (top 52)
theorem sc__law_cell : FnScope ["script", "k"] ["script", "k"] (defScope s__law_cell) := ⟨rfl, rfl, rfl, by decide +kernel, rfl, by decide +kernel, by decide +kernel⟩
abbrev s__law_numbers : Stmt := (top 53)
theorem sc__law_numbers : FnScope ["cell", "many", "rest", "size", "numbers", "k", "mixed"] ["cell", "many"] (defScope s__law_numbers) := ⟨rfl, rfl, rfl, by decide +kernel, rfl, by decide +kernel, by decide +kernel⟩
abbrev s__law_state : Stmt := (top 54)
theorem sc__law_state : FnScope ["script", "left", "numbers", "k", "parted"] ["script", "left"] (defScope s__law_state) := ⟨rfl, rfl, rfl, by decide +kernel, rfl, by decide +kernel, by decide +kernel⟩
abbrev s__law_next : Stmt := (top 55)
theorem sc__law_next : FnScope ["state", "many", "at"] ["state", "many"] (defScope s__law_next) := ⟨rfl, rfl, rfl, by decide +kernel, rfl, by decide +kernel, by decide +kernel⟩
abbrev s__law_points : Stmt := (top 59)
theorem sc__law_points : FnScope ["state", "menu", "many", "points", "k", "pick", "point"] ["state"] (defScope s__law_points) := ⟨rfl, rfl, rfl, by decide +kernel, rfl, by decide +kernel, by decide +kernel⟩
abbrev s__law_big : Stmt := (top 56)
theorem sc__law_big : FnScope ["state", "many", "cell"] ["state", "many"] (defScope s__law_big) := ⟨rfl, rfl, rfl, by decide +kernel, rfl, by decide +kernel, by decide +kernel⟩
abbrev s__law_normal : Stmt := (top 57)
theorem sc__law_normal : FnScope ["m", "e", "k"] ["m", "e"] (defScope s__law_normal) := ⟨rfl, rfl, rfl, by decide +kernel, rfl, by decide +kernel, by decide +kernel⟩
abbrev s__law_number : Stmt := (top 58)
theorem sc__law_number : FnScope ["state", "pick", "m", "e", "edges", "power_v", "k"] ["state"] (defScope s__law_number) := ⟨rfl, rfl, rfl, by decide +kernel, rfl, by decide +kernel, by decide +kernel⟩
abbrev s__law_octets : Stmt := (top 60)
theorem sc__law_octets : FnScope ["state", "many", "low", "span", "k"] ["state"] (defScope s__law_octets) := ⟨rfl, rfl, rfl, by decide +kernel, rfl, by decide +kernel, by decide +kernel⟩
abbrev s__law_leaf : Stmt := (top 61)
theorem sc__law_leaf : FnScope ["state", "kinds", "kind"] ["state", "kinds"] (defScope s__law_leaf) := ⟨rfl, rfl, rfl, by decide +kernel, rfl, by decide +kernel, by decide +kernel⟩
abbrev s__law_value : Stmt := (top 62)
theorem sc__law_value : FnScope ["state", "deep", "kinds", "has_maps", "pick", "many", "k", "entries", "key", "entry"] ["state", "deep", "kinds", "has_maps"] (defScope s__law_value) := ⟨rfl, rfl, rfl, by decide +kernel, rfl, by decide +kernel, by decide +kernel⟩
abbrev s__law_far : Stmt := (top 63)
theorem sc__law_far : FnScope ["state", "value", "e", "far"] ["state", "value"] (defScope s__law_far) := ⟨rfl, rfl, rfl, by decide +kernel, rfl, by decide +kernel, by decide +kernel⟩
abbrev s__law_towered : Stmt := (top 64)
theorem sc__law_towered : FnScope ["state", "value", "has_maps", "k", "pick"] ["state", "value", "has_maps"] (defScope s__law_towered) := ⟨rfl, rfl, rfl, by decide +kernel, rfl, by decide +kernel, by decide +kernel⟩
abbrev s__law_walk : Stmt := (top 65)
theorem sc__law_walk : FnScope ["value", "found", "item", "entry"] ["value"] (defScope s__law_walk) := ⟨rfl, rfl, rfl, by decide +kernel, rfl, by decide +kernel, by decide +kernel⟩
abbrev s__law_big_endian : Stmt := (top 67)
theorem sc__law_big_endian : FnScope ["number", "many", "octets", "k"] ["number", "many"] (defScope s__law_big_endian) := ⟨rfl, rfl, rfl, by decide +kernel, rfl, by decide +kernel, by decide +kernel⟩
abbrev s__law_head : Stmt := (top 69)
theorem sc__law_head : FnScope ["major", "number", "k", "many"] ["major", "number"] (defScope s__law_head) := ⟨rfl, rfl, rfl, by decide +kernel, rfl, by decide +kernel, by decide +kernel⟩
abbrev s__law_utf8 : Stmt := (top 66)
theorem sc__law_utf8 : FnScope ["points", "octets", "point"] ["points"] (defScope s__law_utf8) := ⟨rfl, rfl, rfl, by decide +kernel, rfl, by decide +kernel, by decide +kernel⟩
abbrev s__law_text : Stmt := (top 72)
theorem sc__law_text : FnScope ["points", "octets"] ["points"] (defScope s__law_text) := ⟨rfl, rfl, rfl, by decide +kernel, rfl, by decide +kernel, by decide +kernel⟩
abbrev s__law_fewest : Stmt := (top 68)
theorem sc__law_fewest : FnScope ["number", "octets", "k"] ["number"] (defScope s__law_fewest) := ⟨rfl, rfl, rfl, by decide +kernel, rfl, by decide +kernel, by decide +kernel⟩
abbrev s__law_integer : Stmt := (top 70)
theorem sc__law_integer : FnScope ["number", "major", "octets"] ["number"] (defScope s__law_integer) := ⟨rfl, rfl, rfl, by decide +kernel, rfl, by decide +kernel, by decide +kernel⟩
abbrev s__law_number_written : Stmt := (top 71)
theorem sc__law_number_written : FnScope ["m", "e", "k"] ["m", "e"] (defScope s__law_number_written) := ⟨rfl, rfl, rfl, by decide +kernel, rfl, by decide +kernel, by decide +kernel⟩
abbrev s__law_leaf_written : Stmt := (top 73)
theorem sc__law_leaf_written : FnScope ["value"] ["value"] (defScope s__law_leaf_written) := ⟨rfl, rfl, rfl, by decide +kernel, rfl, by decide +kernel, by decide +kernel⟩
abbrev s__law_written : Stmt := (top 74)
theorem sc__law_written : FnScope ["value", "found", "item", "row", "entry"] ["value"] (defScope s__law_written) := ⟨rfl, rfl, rfl, by decide +kernel, rfl, by decide +kernel, by decide +kernel⟩
abbrev s__law_lacks : Stmt := (top 75)
theorem sc__law_lacks : FnScope ["value"] ["value"] (defScope s__law_lacks) := ⟨rfl, rfl, rfl, by decide +kernel, rfl, by decide +kernel, by decide +kernel⟩
abbrev s_AlikeError___init__ : Stmt := (inClass (top 37) 0)
theorem sc_AlikeError___init__ : FnScope ["self", "what"] ["self", "what"] (defScope s_AlikeError___init__) := ⟨rfl, rfl, rfl, by decide +kernel, rfl, by decide +kernel, by decide +kernel⟩
abbrev s_check_writable : Stmt := (top 45)
theorem sc_check_writable : FnScope ["value", "is_lacking", "index"] ["value", "is_lacking"] (defScope s_check_writable) := ⟨rfl, rfl, rfl, by decide +kernel, rfl, by decide +kernel, by decide +kernel⟩
abbrev s_wide : Stmt := (top 17)
theorem sc_wide : FnScope ["n", "many", "shift"] ["n", "many"] (defScope s_wide) := ⟨rfl, rfl, rfl, by decide +kernel, rfl, by decide +kernel, by decide +kernel⟩
abbrev s_shortest_head : Stmt := (top 20)
theorem sc_shortest_head : FnScope ["major", "argument", "info"] ["major", "argument"] (defScope s_shortest_head) := ⟨rfl, rfl, rfl, by decide +kernel, rfl, by decide +kernel, by decide +kernel⟩
abbrev s__encode_long : Stmt := (top 27)
theorem sc__encode_long : FnScope ["point", "many", "octets", "shift"] ["point"] (defScope s__encode_long) := ⟨rfl, rfl, rfl, by decide +kernel, rfl, by decide +kernel, by decide +kernel⟩
abbrev s_encode : Stmt := (top 26)
theorem sc_encode : FnScope ["points", "octets", "point"] ["points"] (defScope s_encode) := ⟨rfl, rfl, rfl, by decide +kernel, rfl, by decide +kernel, by decide +kernel⟩
abbrev s_key_octets : Stmt := (top 33)
theorem sc_key_octets : FnScope ["points", "octets"] ["points"] (defScope s_key_octets) := ⟨rfl, rfl, rfl, by decide +kernel, rfl, by decide +kernel, by decide +kernel⟩
abbrev s_power : Stmt := (top 22)
theorem sc_power : FnScope ["base", "many", "worth"] ["base", "many"] (defScope s_power) := ⟨rfl, rfl, rfl, by decide +kernel, rfl, by decide +kernel, by decide +kernel⟩
abbrev s_whole : Stmt := (top 23)
theorem sc_whole : FnScope ["m", "e", "most"] ["m", "e", "most"] (defScope s_whole) := ⟨rfl, rfl, rfl, by decide +kernel, rfl, by decide +kernel, by decide +kernel⟩
abbrev s_shortest : Stmt := (top 18)
theorem sc_shortest : FnScope ["n"] ["n"] (defScope s_shortest) := ⟨rfl, rfl, rfl, by decide +kernel, rfl, by decide +kernel, by decide +kernel⟩
abbrev s__integer_octets : Stmt := (top 35)
theorem sc__integer_octets : FnScope ["integer", "is_negative", "n", "octets", "tag"] ["integer"] (defScope s__integer_octets) := ⟨rfl, rfl, rfl, by decide +kernel, rfl, by decide +kernel, by decide +kernel⟩
abbrev s__number_octets : Stmt := (top 34)
theorem sc__number_octets : FnScope ["m", "e", "integer"] ["m", "e"] (defScope s__number_octets) := ⟨rfl, rfl, rfl, by decide +kernel, rfl, by decide +kernel, by decide +kernel⟩
abbrev s_leaf_octets : Stmt := (top 32)
theorem sc_leaf_octets : FnScope ["value"] ["value"] (defScope s_leaf_octets) := ⟨rfl, rfl, rfl, by decide +kernel, rfl, by decide +kernel, by decide +kernel⟩
abbrev s__in_order : Stmt := (top 50)
theorem sc__in_order : FnScope ["entries", "pairs", "key", "part"] ["entries"] (defScope s__in_order) := ⟨rfl, rfl, rfl, by decide +kernel, rfl, by decide +kernel, by decide +kernel⟩
abbrev s__octets_of : Stmt := (top 49)
theorem sc__octets_of : FnScope ["value", "octets", "item", "key", "part"] ["value"] (defScope s__octets_of) := ⟨rfl, rfl, rfl, by decide +kernel, rfl, by decide +kernel, by decide +kernel⟩
abbrev s_write_cbor : Stmt := (top 47)
theorem sc_write_cbor : FnScope ["value"] ["value"] (defScope s_write_cbor) := ⟨rfl, rfl, rfl, by decide +kernel, rfl, by decide +kernel, by decide +kernel⟩
abbrev s__law_told : Stmt := (top 76)
theorem sc__law_told : FnScope ["value", "e"] ["value"] (defScope s__law_told) := ⟨rfl, rfl, rfl, by decide +kernel, rfl, by decide +kernel, by decide +kernel⟩
abbrev s_law : Stmt := (top 77)
theorem sc_law : FnScope ["script", "state", "value", "rows", "due", "told", "k"] ["script"] (defScope s_law) := ⟨rfl, rfl, rfl, by decide +kernel, rfl, by decide +kernel, by decide +kernel⟩
def d_is_lacking : DefM := { ad := glAd "is_lacking", nm := "is_lacking", ql := "is_lacking", pa := defArgs s_is_lacking, bo := defBody s_is_lacking, sc := defScope s_is_lacking }
def d_parts : DefM := { ad := glAd "parts", nm := "parts", ql := "parts", pa := defArgs s_parts, bo := defBody s_parts, sc := defScope s_parts }
def d_walk : DefM := { ad := glAd "walk", nm := "walk", ql := "walk", pa := defArgs s_walk, bo := defBody s_walk, sc := defScope s_walk }
def d_first_lacking : DefM := { ad := glAd "first_lacking", nm := "first_lacking", ql := "first_lacking", pa := defArgs s_first_lacking, bo := defBody s_first_lacking, sc := defScope s_first_lacking }
def d_cbor_lacks : DefM := { ad := glAd "cbor_lacks", nm := "cbor_lacks", ql := "cbor_lacks", pa := defArgs s_cbor_lacks, bo := defBody s_cbor_lacks, sc := defScope s_cbor_lacks }
def d__law_cell : DefM := { ad := glAd "_law_cell", nm := "_law_cell", ql := "_law_cell", pa := defArgs s__law_cell, bo := defBody s__law_cell, sc := defScope s__law_cell }
def d__law_numbers : DefM := { ad := glAd "_law_numbers", nm := "_law_numbers", ql := "_law_numbers", pa := defArgs s__law_numbers, bo := defBody s__law_numbers, sc := defScope s__law_numbers }
def d__law_state : DefM := { ad := glAd "_law_state", nm := "_law_state", ql := "_law_state", pa := defArgs s__law_state, bo := defBody s__law_state, sc := defScope s__law_state }
def d__law_next : DefM := { ad := glAd "_law_next", nm := "_law_next", ql := "_law_next", pa := defArgs s__law_next, bo := defBody s__law_next, sc := defScope s__law_next }
def d__law_points : DefM := { ad := glAd "_law_points", nm := "_law_points", ql := "_law_points", pa := defArgs s__law_points, bo := defBody s__law_points, sc := defScope s__law_points }
def d__law_big : DefM := { ad := glAd "_law_big", nm := "_law_big", ql := "_law_big", pa := defArgs s__law_big, bo := defBody s__law_big, sc := defScope s__law_big }
def d__law_normal : DefM := { ad := glAd "_law_normal", nm := "_law_normal", ql := "_law_normal", pa := defArgs s__law_normal, bo := defBody s__law_normal, sc := defScope s__law_normal }
def d__law_number : DefM := { ad := glAd "_law_number", nm := "_law_number", ql := "_law_number", pa := defArgs s__law_number, bo := defBody s__law_number, sc := defScope s__law_number }
def d__law_octets : DefM := { ad := glAd "_law_octets", nm := "_law_octets", ql := "_law_octets", pa := defArgs s__law_octets, bo := defBody s__law_octets, sc := defScope s__law_octets }
def d__law_leaf : DefM := { ad := glAd "_law_leaf", nm := "_law_leaf", ql := "_law_leaf", pa := defArgs s__law_leaf, bo := defBody s__law_leaf, sc := defScope s__law_leaf }
def d__law_value : DefM := { ad := glAd "_law_value", nm := "_law_value", ql := "_law_value", pa := defArgs s__law_value, bo := defBody s__law_value, sc := defScope s__law_value }
def d__law_far : DefM := { ad := glAd "_law_far", nm := "_law_far", ql := "_law_far", pa := defArgs s__law_far, bo := defBody s__law_far, sc := defScope s__law_far }
def d__law_towered : DefM := { ad := glAd "_law_towered", nm := "_law_towered", ql := "_law_towered", pa := defArgs s__law_towered, bo := defBody s__law_towered, sc := defScope s__law_towered }
def d__law_walk : DefM := { ad := glAd "_law_walk", nm := "_law_walk", ql := "_law_walk", pa := defArgs s__law_walk, bo := defBody s__law_walk, sc := defScope s__law_walk }
def d__law_big_endian : DefM := { ad := glAd "_law_big_endian", nm := "_law_big_endian", ql := "_law_big_endian", pa := defArgs s__law_big_endian, bo := defBody s__law_big_endian, sc := defScope s__law_big_endian }
def d__law_head : DefM := { ad := glAd "_law_head", nm := "_law_head", ql := "_law_head", pa := defArgs s__law_head, bo := defBody s__law_head, sc := defScope s__law_head }
def d__law_utf8 : DefM := { ad := glAd "_law_utf8", nm := "_law_utf8", ql := "_law_utf8", pa := defArgs s__law_utf8, bo := defBody s__law_utf8, sc := defScope s__law_utf8 }
def d__law_text : DefM := { ad := glAd "_law_text", nm := "_law_text", ql := "_law_text", pa := defArgs s__law_text, bo := defBody s__law_text, sc := defScope s__law_text }
def d__law_fewest : DefM := { ad := glAd "_law_fewest", nm := "_law_fewest", ql := "_law_fewest", pa := defArgs s__law_fewest, bo := defBody s__law_fewest, sc := defScope s__law_fewest }
def d__law_integer : DefM := { ad := glAd "_law_integer", nm := "_law_integer", ql := "_law_integer", pa := defArgs s__law_integer, bo := defBody s__law_integer, sc := defScope s__law_integer }
def d__law_number_written : DefM := { ad := glAd "_law_number_written", nm := "_law_number_written", ql := "_law_number_written", pa := defArgs s__law_number_written, bo := defBody s__law_number_written, sc := defScope s__law_number_written }
def d__law_leaf_written : DefM := { ad := glAd "_law_leaf_written", nm := "_law_leaf_written", ql := "_law_leaf_written", pa := defArgs s__law_leaf_written, bo := defBody s__law_leaf_written, sc := defScope s__law_leaf_written }
def d__law_written : DefM := { ad := glAd "_law_written", nm := "_law_written", ql := "_law_written", pa := defArgs s__law_written, bo := defBody s__law_written, sc := defScope s__law_written }
def d__law_lacks : DefM := { ad := glAd "_law_lacks", nm := "_law_lacks", ql := "_law_lacks", pa := defArgs s__law_lacks, bo := defBody s__law_lacks, sc := defScope s__law_lacks }
def d_AlikeError___init__ : DefM := { ad := meAd "AlikeError" "__init__", nm := "__init__", ql := "AlikeError.__init__", pa := defArgs s_AlikeError___init__, bo := defBody s_AlikeError___init__, sc := defScope s_AlikeError___init__, df := [.non] }
def d_check_writable : DefM := { ad := glAd "check_writable", nm := "check_writable", ql := "check_writable", pa := defArgs s_check_writable, bo := defBody s_check_writable, sc := defScope s_check_writable }
def d_wide : DefM := { ad := glAd "wide", nm := "wide", ql := "wide", pa := defArgs s_wide, bo := defBody s_wide, sc := defScope s_wide }
def d_shortest_head : DefM := { ad := glAd "shortest_head", nm := "shortest_head", ql := "shortest_head", pa := defArgs s_shortest_head, bo := defBody s_shortest_head, sc := defScope s_shortest_head }
def d__encode_long : DefM := { ad := glAd "_encode_long", nm := "_encode_long", ql := "_encode_long", pa := defArgs s__encode_long, bo := defBody s__encode_long, sc := defScope s__encode_long }
def d_encode : DefM := { ad := glAd "encode", nm := "encode", ql := "encode", pa := defArgs s_encode, bo := defBody s_encode, sc := defScope s_encode }
def d_key_octets : DefM := { ad := glAd "key_octets", nm := "key_octets", ql := "key_octets", pa := defArgs s_key_octets, bo := defBody s_key_octets, sc := defScope s_key_octets }
def d_power : DefM := { ad := glAd "power", nm := "power", ql := "power", pa := defArgs s_power, bo := defBody s_power, sc := defScope s_power }
def d_whole : DefM := { ad := glAd "whole", nm := "whole", ql := "whole", pa := defArgs s_whole, bo := defBody s_whole, sc := defScope s_whole }
def d_shortest : DefM := { ad := glAd "shortest", nm := "shortest", ql := "shortest", pa := defArgs s_shortest, bo := defBody s_shortest, sc := defScope s_shortest }
def d__integer_octets : DefM := { ad := glAd "_integer_octets", nm := "_integer_octets", ql := "_integer_octets", pa := defArgs s__integer_octets, bo := defBody s__integer_octets, sc := defScope s__integer_octets }
def d__number_octets : DefM := { ad := glAd "_number_octets", nm := "_number_octets", ql := "_number_octets", pa := defArgs s__number_octets, bo := defBody s__number_octets, sc := defScope s__number_octets }
def d_leaf_octets : DefM := { ad := glAd "leaf_octets", nm := "leaf_octets", ql := "leaf_octets", pa := defArgs s_leaf_octets, bo := defBody s_leaf_octets, sc := defScope s_leaf_octets }
def d__in_order : DefM := { ad := glAd "_in_order", nm := "_in_order", ql := "_in_order", pa := defArgs s__in_order, bo := defBody s__in_order, sc := defScope s__in_order }
def d__octets_of : DefM := { ad := glAd "_octets_of", nm := "_octets_of", ql := "_octets_of", pa := defArgs s__octets_of, bo := defBody s__octets_of, sc := defScope s__octets_of }
def d_write_cbor : DefM := { ad := glAd "write_cbor", nm := "write_cbor", ql := "write_cbor", pa := defArgs s_write_cbor, bo := defBody s_write_cbor, sc := defScope s_write_cbor }
def d__law_told : DefM := { ad := glAd "_law_told", nm := "_law_told", ql := "_law_told", pa := defArgs s__law_told, bo := defBody s__law_told, sc := defScope s__law_told }
def d_law : DefM := { ad := glAd "law", nm := "law", ql := "law", pa := defArgs s_law, bo := defBody s_law, sc := defScope s_law }
def fn : List DefM := [d_is_lacking, d_parts, d_walk, d_first_lacking, d_cbor_lacks, d__law_cell, d__law_numbers, d__law_state, d__law_next, d__law_points, d__law_big, d__law_normal, d__law_number, d__law_octets, d__law_leaf, d__law_value, d__law_far, d__law_towered, d__law_walk, d__law_big_endian, d__law_head, d__law_utf8, d__law_text, d__law_fewest, d__law_integer, d__law_number_written, d__law_leaf_written, d__law_written, d__law_lacks, d_AlikeError___init__, d_check_writable, d_wide, d_shortest_head, d__encode_long, d_encode, d_key_octets, d_power, d_whole, d_shortest, d__integer_octets, d__number_octets, d_leaf_octets, d__in_order, d__octets_of, d_write_cbor, d__law_told, d_law]
def fa : List He.Fa := [.glo "is_lacking", .glo "parts", .glo "walk", .glo "first_lacking", .glo "cbor_lacks", .glo "_law_cell", .glo "_law_numbers", .glo "_law_state", .glo "_law_next", .glo "_law_points", .glo "_law_big", .glo "_law_normal", .glo "_law_number", .glo "_law_octets", .glo "_law_leaf", .glo "_law_value", .glo "_law_far", .glo "_law_towered", .glo "_law_walk", .glo "_law_big_endian", .glo "_law_head", .glo "_law_utf8", .glo "_law_text", .glo "_law_fewest", .glo "_law_integer", .glo "_law_number_written", .glo "_law_leaf_written", .glo "_law_written", .glo "_law_lacks", .glo "check_writable", .glo "wide", .glo "shortest_head", .glo "_encode_long", .glo "encode", .glo "key_octets", .glo "power", .glo "whole", .glo "shortest", .glo "_integer_octets", .glo "_number_octets", .glo "leaf_octets", .glo "_in_order", .glo "_octets_of", .glo "write_cbor", .glo "_law_told", .glo "law", .free "range", .free "len", .free "list", .free "tuple", .free "enumerate", .free "sorted", .free "abs", .free "int", .free "isinstance", .free "repr", .glo "WIDTHS", .int "LARGEST_EXPONENT" 1000000000, .int "SIMPLE" 7, .int "NULL_INFO" 22, .int "TRUE_INFO" 21, .int "FALSE_INFO" 20, .int "BYTES" 2, .int "TEXT" 3, .int "LARGEST_SCALE" 64, .int "TAG" 6, .int "DECIMAL_TAG" 4, .int "LIST" 4, .int "FIRST_LARGE" 18446744073709551616, .int "NEGATIVE_TAG" 3, .int "POSITIVE_TAG" 2, .int "NEGATIVE" 1, .int "POSITIVE" 0, .int "MAP" 5, .glo "Unwritable", .glo "AlikeError", .glo "Unreadable", .glo "is_lacking"]
def ex (K : Frg) : Bool := conB K "MARKS" (.tuple [.int 0, .int 192, .int 224, .int 240]) && (exkB K (He.ga K "Unwritable") (meAd "AlikeError" "__init__" K) "what" && (exkB K (He.ga K "AlikeError") (meAd "AlikeError" "__init__" K) "what" && (exkB K (He.ga K "Unreadable") (meAd "AlikeError" "__init__" K) "what" && (isxB K (He.ga K "Unwritable") && (decide (PySem.W.exmOne K (.ref (He.ga K "Unwritable")) (.ref (He.ga K "AlikeError")) = some true) && (decide (PySem.W.kitOne K (.ref (He.ga K "Unwritable")) (.ref (He.ga K "Unreadable")) = some false) && (decide (PySem.W.kitOne K (.ref (He.ga K "Unwritable")) (.ref (He.ga K "Unwritable")) = some true) && (digB K && (tabV K (He.ga K "WIDTHS") [.int 1, .int 2, .int 4, .int 8])))))))))
def ts : List TabX := [("WIDTHS", ([.inl 24, .inl 25, .inl 26, .inl 27] : List Key).map Sum.inl)]
def al : List Addr := ([2, 3, 6, 4, 15, 20, 27, 34, 41, 48, 49, 56, 63, 70, 77, 84, 91, 98, 116, 129, 141, 148, 155, 162, 169, 176, 183, 190, 195, 202, 209, 214, 221, 228, 235, 242, 249, 254, 261, 266, 273, 280, 287, 294, 301, 308, 315, 322, 329, 336, 343, 348, 355, 362, 367, 0, 19, 26, 33, 40, 47, 55, 62, 69, 76, 83, 90, 97, 115, 128, 140, 147, 154, 161, 168, 175, 182, 189, 194, 201, 208, 213, 220, 227, 234, 241, 248, 253, 260, 265, 272, 279, 286, 293, 300, 307, 314, 321, 328, 335] : List Addr) ++ ([342, 347, 354, 361, 366, 16, 17, 18, 21, 22, 23, 24, 25, 28, 29, 30, 31, 32, 35, 36, 37, 38, 39, 42, 43, 44, 45, 46, 50, 51, 52, 53, 54, 57, 58, 59, 60, 61, 64, 65, 66, 67, 68, 71, 72, 73, 74, 75, 78, 79, 80, 81, 82, 85, 86, 87, 88, 89, 92, 93, 94, 95, 96, 113, 114, 117, 127, 139, 144, 145, 146, 149, 150, 151, 152, 153, 156, 157, 158, 159, 160, 163, 164, 165, 166, 167, 170, 171, 172, 173, 174, 177, 178, 179, 180, 181, 184, 185, 186, 187] : List Addr) ++ ([188, 191, 192, 193, 196, 197, 198, 199, 200, 203, 204, 205, 206, 207, 210, 211, 212, 215, 216, 217, 218, 219, 222, 223, 224, 225, 226, 229, 230, 231, 232, 233, 236, 237, 238, 239, 240, 243, 244, 245, 246, 247, 250, 251, 252, 255, 256, 257, 258, 259, 262, 263, 264, 267, 268, 269, 270, 271, 274, 275, 276, 277, 278, 281, 282, 283, 284, 285, 288, 289, 290, 291, 292, 295, 296, 297, 298, 299, 302, 303, 304, 305, 306, 309, 310, 311, 312, 313, 316, 317, 318, 319, 320, 323, 324, 325, 326, 327, 330, 331] : List Addr) ++ ([332, 333, 334, 337, 338, 339, 340, 341, 344, 345, 346, 349, 350, 351, 352, 353, 356, 357, 358, 359, 360, 363, 364, 365, 112, 106, 107, 108, 109, 110, 111] : List Addr)
abbrev RR : PySem.W.OpenRow := PySem.W.OpenLaw.row PySem.Challenge.rw_formsalike_k19_cbor_written
def loose : List PySem.Str := (["POSITIVE", "NEGATIVE", "BYTES", "TEXT", "LIST", "MAP", "TAG", "SIMPLE", "FALSE_INFO", "TRUE_INFO", "NULL_INFO", "WIDTHS", "POSITIVE_TAG", "NEGATIVE_TAG", "DECIMAL_TAG", "LARGEST_EXPONENT", "wide", "shortest", "shortest_head", "power", "whole", "MARKS", "encode", "_encode_long", "LARGEST_SCALE", "FIRST_LARGE", "is_lacking", "leaf_octets", "key_octets", "_number_octets"] : List PySem.Str) ++ (["_integer_octets", "AlikeError", "Unreadable", "Unwritable", "parts", "walk", "first_lacking", "check_writable", "write_cbor", "cbor_lacks", "_octets_of", "_in_order", "_law_cell", "_law_numbers", "_law_state", "_law_next", "_law_big", "_law_normal", "_law_number", "_law_points", "_law_octets", "_law_leaf", "_law_value", "_law_far", "_law_towered", "_law_walk", "_law_utf8", "_law_big_endian", "_law_fewest", "_law_head"] : List PySem.Str) ++ (["_law_integer", "_law_number_written", "_law_text", "_law_leaf_written", "_law_written", "_law_lacks", "_law_told"] : List PySem.Str)
abbrev hk : PySem.W.Hook := hookXT al fa ex fn ts lamsL
def ob (s : PySem.W.SharedT) : AlXT := obsXT fa ex fn ts lamsL (HandSHeadRun.getT s) (He.frT (HandSHeadRun.getT s) al)
theorem ob_eq (s : PySem.W.SharedT) : ob s = hk.obs s.abs := obsXT_eq (HandSHeadRun.getT_eq s)
theorem run_true (w : World) : HandSHeadRun.RunEq RR (PySem.W.view RR.prog [77]) hk ob 6000 loose (setF w true) := by
  intro os
  kernel_rfl
theorem run_false (w : World) : HandSHeadRun.RunEq RR (PySem.W.view RR.prog [77]) hk ob 6000 loose (setF w false) := by
  intro os
  kernel_rfl
theorem run (w : World) : HandSHeadRun.RunEq RR (PySem.W.view RR.prog [77]) hk ob 6000 loose w := by
  rw [← setF_eq w]
  generalize w.params.followText "special-get-raises" = b
  cases b
  · exact run_false w
  · exact run_true w


/-! ### numbers by powers of ten -/
theorem pow_bits {b : Int} (hb : b.natAbs < 16) (c : Nat) : (b ^ c).natAbs < 2 ^ (4 * c + 1) := by
  rw [Int.natAbs_pow]
  have h1 : b.natAbs ^ c ≤ 16 ^ c := Nat.pow_le_pow_left (by omega) c
  have h2 : (16 : Nat) ^ c = 2 ^ (4 * c) := by
    rw [Nat.pow_mul]
  have h3 : (2 : Nat) ^ (4 * c) < 2 ^ (4 * c + 1) := Nat.pow_lt_pow_right (by decide) (by omega)
  omega
theorem bits10 (n : Nat) : (10 : Int) ^ n < 2 ^ (4 * n + 1) := by
  have h := pow_bits (b := 10) (by decide) n
  have e : ((10 : Int) ^ n).natAbs = 10 ^ n := by rw [Int.natAbs_pow]; rfl
  rw [e] at h
  have h2 : ((10 ^ n : Nat) : Int) < ((2 ^ (4 * n + 1) : Nat) : Int) := Int.ofNat_lt.mpr h
  rw [Int.natCast_pow, Int.natCast_pow] at h2
  exact h2
theorem abs10 {x : Int} {n : Nat} (h : x.natAbs < 10 ^ n) : x.natAbs < 2 ^ (4 * n + 1) := by
  have h1 := pow_bits (b := 10) (by decide) n
  have e : ((10 : Int) ^ n).natAbs = 10 ^ n := by rw [Int.natAbs_pow]; rfl
  rw [e] at h1
  omega
theorem abs_mul10 {x y : Int} {a b : Nat} (h1 : x.natAbs < 10 ^ a) (h2 : y.natAbs < 10 ^ b) : (x * y).natAbs < 10 ^ (a + b) := by
  rw [Int.natAbs_mul, Nat.pow_add]
  exact Nat.mul_lt_mul'' h1 h2
theorem natAbs10 (n : Nat) : ((10 : Int) ^ n).natAbs = 10 ^ n := by rw [Int.natAbs_pow]; rfl
theorem pow10_le {a b : Nat} (h : a ≤ b) : (10 : Nat) ^ a ≤ 10 ^ b := Nat.pow_le_pow_right (by decide) h
def sp_law (K : PySem.W.Frag) : Sp := sp1 fun a H Q _ => ∃ (sl : Addr) (ns : List Int), a = .ref sl ∧ SqL K H sl (ns.map V.int) ∧ ∀ H', Q (.bl true) H'

/-! ### normal -/
/-- the normal form, one zero after another -/
def nrm (m e : Int) : Int × Int := if m = 0 then (0, 0) else if m % 10 = 0 then nrm (m / 10) (e + 1) else (m, e)
termination_by m.natAbs
decreasing_by omega
theorem nrm_zero (e : Int) : nrm 0 e = (0, 0) := by
  unfold nrm
  simp
theorem nrm_stop {m : Int} (e : Int) (h : m % 10 ≠ 0) : nrm m e = (m, e) := by
  unfold nrm
  rw [if_neg (by omega), if_neg h]
theorem nrm_step {m : Int} (e : Int) (h0 : m ≠ 0) (h : m % 10 = 0) : nrm m e = nrm (m / 10) (e + 1) := by
  rw [nrm, if_neg h0, if_pos h]
theorem nrm_mul {a : Int} (h0 : a ≠ 0) (e : Int) : ∀ k : Nat, nrm (a * 10 ^ k) e = nrm a (e + k)
  | 0 => by simp
  | k + 1 => by
    have h1 : a * 10 ^ k ≠ 0 := Int.mul_ne_zero h0 (Int.ne_of_gt (Int.pow_pos (by decide)))
    have e1 : a * 10 ^ (k + 1) = 10 * (a * 10 ^ k) := by
      rw [Int.pow_succ, ← Int.mul_assoc, Int.mul_comm]
    rw [e1, nrm_step e (by omega) (by omega), show 10 * (a * 10 ^ k) / 10 = a * 10 ^ k by omega, nrm_mul h0 (e + 1) k]
    congr 1
    omega
theorem nrm_is {m a : Int} (h : a % 10 ≠ 0) (k : Nat) (e1 : m = a * 10 ^ k) (e : Int) : nrm m e = (a, e + k) := by
  rw [e1, nrm_mul (by omega), nrm_stop _ h]
theorem nrm_spec : ∀ (n : Nat) (m e : Int), m.natAbs ≤ n → m ≠ 0 → ∃ (a : Int) (k : Nat), nrm m e = (a, e + k) ∧ a % 10 ≠ 0 ∧ m = a * 10 ^ k
  | 0, m, _, h, h0 => absurd (Int.natAbs_eq_zero.mp (by omega)) h0
  | n + 1, m, e, h, h0 => by
    by_cases c : m % 10 = 0
    · obtain ⟨a, k, h1, h2, h3⟩ := nrm_spec n (m / 10) (e + 1) (by omega) (by omega)
      refine ⟨a, k + 1, ?_, h2, ?_⟩
      · rw [nrm_step e h0 c, h1]
        congr 1
        omega
      · rw [Int.pow_succ, ← Int.mul_assoc, ← h3]
        omega
    · exact ⟨m, 0, by rw [nrm_stop e c]; simp, c, by simp⟩
theorem nrm_of {m : Int} (e : Int) (h0 : m ≠ 0) : ∃ (a : Int) (k : Nat), nrm m e = (a, e + k) ∧ a % 10 ≠ 0 ∧ m = a * 10 ^ k := nrm_spec _ m e (Nat.le_refl _) h0
theorem nrm_piece {m : Int} (e : Int) (h0 : m ≠ 0) (h : m % 10000000000000000000000000000000000000000000000000000000000000000 = 0) :
    nrm (m / 10000000000000000000000000000000000000000000000000000000000000000) (e + 64) = nrm m e := by
  have e1 : m = (m / 10000000000000000000000000000000000000000000000000000000000000000) * 10 ^ 64 := by
    have e2 : (10 : Int) ^ 64 = 10000000000000000000000000000000000000000000000000000000000000000 := by decide
    rw [e2]
    omega
  have h1 : m / 10000000000000000000000000000000000000000000000000000000000000000 ≠ 0 := by omega
  have e3 := nrm_mul h1 e 64
  rw [← e1] at e3
  exact e3.symm
def sp_normal : Sp := sp2 fun a b H Q _ => ∃ m e, a = .int m ∧ b = .int e ∧ ∀ p x y, nrm m e = (x, y) → H p = none → Q (.ref p) (upd H p (.tup [.int x, .int y]))

/-! ### power -/

def sp_power : Sp := sp2 fun a b H Q _ => ∃ (x : Int) (n : Nat), a = .int x ∧ b = .int (n : Int) ∧ x.natAbs < 16 ∧ n ≤ 100000 ∧ Q (.int (x ^ n)) H
section
variable {P : Program} {w : World} {K : PySem.W.Frag} {mg : Str → Option Value} {base : Heap} {f : Addr} {fd : FuncData}
theorem ok_power (F : FunD K "power" "power" (defArgs s_power) (defBody s_power) (defScope s_power) [] [] (glAd "power" K) fd) (m : mg "power" = some (.ref (glAd "power" K))) (nb : Nm w K mg) : Cal P w K mg base 1 "power" sp_power [] := by
  refine calD F m sc_power (fun _ _ _ _ _ _ us hl => match us, hl with | [_, _], _ => rfl) len2 (fun cdv A outer s H vs Q E hr h => ⟨_, (pss_cons (ps_set (i := 2) sc_power.nd rfl (Or.inl rfl) pe_int)
    (pss_cons (ps_while PassesOwn.never (pt_cmpR op_gt (pv 1) pe_int (nomark _))
    (pss_cons (ps_if (pt_cmpR op_eq (pe_op op_mod (pv 1) pe_int) pe_int (nomark _))
    (pss_one (ps_set (i := 2) sc_power.nd rfl (Or.inl rfl) (pe_op op_mulX (pv 2) (pv 0))))
    pss_nil)
    (pss_cons (ps_set (i := 0) sc_power.nd rfl (Or.inl rfl) (pe_op op_mulX (pv 0) (pv 0)))
    (pss_one (ps_set (i := 1) sc_power.nd rfl (Or.inl rfl) (pe_op op_fdiv (pv 1) pe_int))))))
    (pss_one (ps_ret (pv 2))))), ?_⟩)
  obtain ⟨_, _, rfl, x, n, rfl, rfl, hx, hn, h⟩ := h
  walk_at "rd"
  refine r_while (fun k σ H' => H = H' ∧ ∃ c d : Nat, σ = [some (.int (x ^ c)), some (.int (k : Int)), some (.int (x ^ d))] ∧ d + c * k = n ∧ c ≤ 2 * n + 1) n ⟨rfl, 1, 0, by rw [Int.pow_one, Int.pow_zero] <;> rfl, by omega, by omega⟩ ?_
  rintro k σ _ ⟨rfl, c, d, rfl, h1, h2⟩
  walk_at "rd"
  refine r_ite (fun c2 => ?_) (fun c2 => ?_)
  · have h3 : c ≤ n := by
      have h4 : c * 1 ≤ c * k := Nat.mul_le_mul_left c (by omega)
      omega
    have hb := pow_bits hx c
    have hd := pow_bits hx d
    refine r_turn ?_
    walk_at "rd"
    refine r_ite (fun c3 => ?_) (fun c3 => ?_)
    · walk_at "rd"
      refine r_I (mulx_ok hd hb (by omega)) ?_
      walk_at "rd"
      refine r_I (mulx_ok hb hb (by omega)) ?_
      walk_at "rd"
      have e1 : k = 2 * (k / 2) + 1 := by omega
      refine ⟨k / 2, by omega, rfl, c + c, d + c, ?_, ?_, by omega⟩
      · rw [Int.pow_add, Int.pow_add]
        rfl
      · have e2 : c * k = c * (2 * (k / 2)) + c := by
          conv => lhs; rw [e1]
          rw [Nat.mul_add, Nat.mul_one]
        have e3 : (c + c) * (k / 2) = c * (2 * (k / 2)) := by
          rw [← Nat.two_mul, Nat.mul_comm 2 c, Nat.mul_assoc]
        omega
    · walk_at "rd"
      refine r_I (mulx_ok hb hb (by omega)) ?_
      walk_at "rd"
      have e1 : k = 2 * (k / 2) := by omega
      refine ⟨k / 2, by omega, rfl, c + c, d, ?_, ?_, by omega⟩
      · rw [Int.pow_add]
        rfl
      · have e2 : c * k = c * (2 * (k / 2)) := by
          conv => lhs; rw [e1]
        have e3 : (c + c) * (k / 2) = c * (2 * (k / 2)) := by
          rw [← Nat.two_mul, Nat.mul_comm 2 c, Nat.mul_assoc]
        omega
  · have e : k = 0 := by omega
    subst e
    walk_at "rd"
    have e2 : d = n := by omega
    rw [e2]
    exact h
end

/-! ### whole -/

def sp_whole : Sp := sp3 fun a b c H Q _ => ∃ m e t : Int, a = .int m ∧ b = .int e ∧ c = .int t ∧ t ≤ 1000 ∧ m.natAbs < 2 ^ 1000000 ∧ (0 ≤ e ∧ e ≤ t → Q (.int (m * 10 ^ e.toNat)) H) ∧ (¬ (0 ≤ e ∧ e ≤ t) → Q .non H)
section
variable {P : Program} {w : World} {K : PySem.W.Frag} {mg : Str → Option Value} {base : Heap} {f : Addr} {fd : FuncData}
theorem ok_whole (F : FunD K "whole" "whole" (defArgs s_whole) (defBody s_whole) (defScope s_whole) [] [] (glAd "whole" K) fd) (m : mg "whole" = some (.ref (glAd "whole" K))) (nb : Nm w K mg) (c_power : Cal P w K mg base 1 "power" sp_power []) : Cal P w K mg base 2 "whole" sp_whole [] := by
  refine calD F m sc_whole (fun _ _ _ _ _ _ us hl => match us, hl with | [_, _, _], _ => rfl) len3 (fun cdv A outer s H vs Q E hr h => ⟨_, (pss_cons (ps_if (pt_chain op_le op_le pe_int (pv 1) (pv 2))
    (pss_one (ps_ret (pe_op op_mulX (pv 0) (pe_c c_power hr (by decide) rfl (pa_cons pe_int (pa_cons (pv 1) pa_nil))))))
    pss_nil)
    (pss_one (ps_ret pe_non))), ?_⟩)
  obtain ⟨_, _, _, rfl, m, e, t, rfl, rfl, rfl, ht, hm, h1, h2⟩ := h
  walk_at "rd"
  refine r_ite (fun c1 => ?_) (fun c1 => ?_)
  · walk_at "rd"
    refine r_ite (fun c2 => ?_) (fun c2 => ?_)
    · walk_at "rd"
      refine ⟨_, _, rfl, 10, e.toNat, rfl, congrArg V.int (by omega), by decide, by omega, ?_⟩
      refine r_I (mulx_ok hm (pow_bits (by decide) _) (by omega)) ?_
      exact h1 ⟨c1, c2⟩
    · walk_at "rd"
      exact h2 (by omega)
  · walk_at "rd"
    exact h2 (by omega)
end

/-! ### the law's state: a list of drawn numbers, its place, and the script; every draw is any number below its bound -/
structure SC where
  a : Addr
  nl : Addr
  sl : Addr
  nums : List Int
  ns : List Int
structure LS (K : PySem.W.Frag) (S : SC) (H : Hp) : Prop where
  st : ∃ k l f : Int, H S.a = some (.lst [.ref S.nl, .int k, .int l, .ref S.sl, .int f])
  nm : H S.nl = some (.lst (S.nums.map V.int))
  len : S.nums.length = 120
  ne : S.nl ≠ S.a
  scr : SqL K H S.sl (S.ns.map V.int)
/-- all but the state's own list stays -/
def Keep (S : SC) (H H' : Hp) : Prop := ∀ b o, b ≠ S.a → H b = some o → H' b = some o
theorem Keep.refl (S : SC) (H : Hp) : Keep S H H := fun _ _ _ h => h
theorem Keep.trans {S : SC} {H H1 H2 : Hp} (a : Keep S H H1) (b : Keep S H1 H2) : Keep S H H2 := fun c o n h => b c o n (a c o n h)
theorem Keep.of {S : SC} {H H' : Hp} (h : Same H H') : Keep S H H' := fun b o _ q => h b o q
section
variable {K : PySem.W.Frag} {S : SC} {H H' : Hp}
theorem LS.same (L : LS K S H) (h : Same H H') : LS K S H' := by
  obtain ⟨⟨k, l, f, e⟩, h2, h3, h4, h5⟩ := L
  exact ⟨⟨k, l, f, h _ _ e⟩, h _ _ h2, h3, h4, h.seq h5⟩
theorem LS.new (L : LS K S H) {p : Addr} (h : H p = none) (o : HO) : LS K S (upd H p o) := L.same (same_upd h o)
theorem LS.put (L : LS K S H) (k l f : Int) : LS K S (upd H S.a (.lst [.ref S.nl, .int k, .int l, .ref S.sl, .int f])) := by
  obtain ⟨⟨k', l', f', e⟩, h2, h3, h4, h5⟩ := L
  refine ⟨⟨k, l, f, upd_same⟩, (upd_ne h4).trans h2, h3, h4, ?_⟩
  rcases h5 with (h | ⟨o, h⟩) | h
  · refine .inl (.inl ((upd_ne fun q => ?_).trans h))
    rw [q, e] at h
    injection h with h
    injection h with h
    cases hn : S.ns with
    | nil =>
      rw [hn] at h
      cases h
    | cons x r =>
      rw [hn] at h
      cases h
  · refine .inl (.inr ⟨o, (upd_ne fun q => ?_).trans h⟩)
    rw [q, e] at h
    cases h
  · exact .inr h
theorem Keep.put (o : HO) : Keep S H (upd H S.a o) := fun b u n h => (upd_ne n).trans h
/-- an address that is free later was free before -/
theorem Keep.free (h : Keep S H H') (L : LS K S H') {p : Addr} (hp : H' p = none) : H p = none := by
  have n : p ≠ S.a := fun e => by
    obtain ⟨k, l, f, q⟩ := L.st
    rw [e, q] at hp
    cases hp
  cases e : H p with
  | none => rfl
  | some o =>
    rw [h p o n e] at hp
    cases hp
theorem LS.ne_free (L : LS K S H) {p : Addr} (hp : H p = none) : p ≠ S.a := fun e => by
  obtain ⟨k, l, f, q⟩ := L.st
  rw [e, q] at hp
  cases hp
end
/-- the state with what is left of its budget -/
structure LB (K : PySem.W.Frag) (S : SC) (l : Int) (H : Hp) : Prop where
  ls : LS K S H
  at_ : ∃ k f : Int, H S.a = some (.lst [.ref S.nl, .int k, .int l, .ref S.sl, .int f])
section
variable {K : PySem.W.Frag} {S : SC} {l : Int} {H H' : Hp}
theorem LB.same (L : LB K S l H) (h : Same H H') : LB K S l H' := by
  obtain ⟨h1, k, f, e⟩ := L
  exact ⟨h1.same h, k, f, h _ _ e⟩
theorem LB.new (L : LB K S l H) {p : Addr} (h : H p = none) (o : HO) : LB K S l (upd H p o) := L.same (same_upd h o)
theorem LB.put (L : LB K S l H) (k l' f : Int) : LB K S l' (upd H S.a (.lst [.ref S.nl, .int k, .int l', .ref S.sl, .int f])) := ⟨L.ls.put k l' f, k, f, upd_same⟩
theorem LB.ne_free (L : LB K S l H) {p : Addr} (hp : H p = none) : p ≠ S.a := L.ls.ne_free hp
theorem LB.noTup (L : LB K S l H) {a : Addr} {xs : List V} (h : H a = some (.tup xs)) : a ≠ S.a := fun e => by
  obtain ⟨_, k, f, e'⟩ := L
  rw [e, e'] at h
  cases h
end




def sp__law_cell (K : PySem.W.Frag) : Sp := sp2 fun a b H Q _ => ∃ (sl : Addr) (ns : List Int) (k : Int), a = .ref sl ∧ b = .int k ∧ SqL K H sl (ns.map V.int) ∧ 0 ≤ k ∧ ∀ z : Int, Q (.int z) H
def sp__law_numbers : Sp := sp2 fun a b H Q _ => ∃ (z : Int) (n : Nat), a = .int z ∧ b = .int (n : Int) ∧ n ≤ 1000 ∧ ∀ (p : Addr) (xs : List Int), H p = none → xs.length = n → Q (.ref p) (upd H p (.lst (xs.map V.int)))
def sp__law_state (K : PySem.W.Frag) : Sp := sp2 fun a b H Q _ => ∃ (sl : Addr) (ns : List Int) (l : Int), a = .ref sl ∧ b = .int l ∧ SqL K H sl (ns.map V.int) ∧
  ∀ (S : SC) (H' : Hp), S.sl = sl → S.ns = ns → LB K S l H' → Same H H' → H S.a = none → Q (.ref S.a) H'
def sp__law_next (K : PySem.W.Frag) : Sp := sp2 fun a b H Q _ => ∃ (S : SC) (l : Int) (m : Int), a = .ref S.a ∧ b = .int m ∧ 0 < m ∧ LB K S l H ∧ ∀ (r : Int) (H' : Hp), 0 ≤ r → r < m → LB K S l H' → Keep S H H' → Q (.int r) H'
section
variable {P : Program} {w : World} {K : PySem.W.Frag} {mg : Str → Option Value} {base : Heap} {f : Addr} {fd : FuncData}
theorem ok__law_cell (F : FunD K "_law_cell" "_law_cell" (defArgs s__law_cell) (defBody s__law_cell) (defScope s__law_cell) [] [] (glAd "_law_cell" K) fd) (m : mg "_law_cell" = some (.ref (glAd "_law_cell" K))) (nb : Nm w K mg) : Cal P w K mg base 1 "_law_cell" (sp__law_cell K) [] := by
  refine calD F m sc__law_cell (fun _ _ _ _ _ _ us hl => match us, hl with | [_, _], _ => rfl) len2 (fun cdv A outer s H vs Q E hr h => ⟨_, (pss_cons (ps_if (pt_cmpR op_lt (pv 1) (pe_callB call_len_seq (by rfl) nb.len PySem.boot_len (pa_cons (pv 0) pa_nil)) (nomark _))
    (pss_one (ps_ret (pe_ix ix_list (pv 0) (pv 1) (fun _ _ => rfl))))
    pss_nil)
    (pss_one (ps_ret pe_int))), ?_⟩)
  obtain ⟨_, _, rfl, sl, ns, k, rfl, rfl, hs, h0, h⟩ := h
  walk_at "rd"
  refine ⟨_, _, rfl, .inl hs, ?_⟩
  walk_at "rd"
  refine r_ite (fun c => ?_) (fun c => ?_)
  · rw [List.length_map] at c
    obtain ⟨v, _, e⟩ := atI_ints h0 c
    walk_at "rd"
    exact r_ixL hs e (h v)
  · walk_at "rd"
    exact h 0
theorem ok__law_numbers (F : FunD K "_law_numbers" "_law_numbers" (defArgs s__law_numbers) (defBody s__law_numbers) (defScope s__law_numbers) [] [] (glAd "_law_numbers" K) fd) (m : mg "_law_numbers" = some (.ref (glAd "_law_numbers" K))) (nb : Nm w K mg) : Cal P w K mg base 1 "_law_numbers" sp__law_numbers [] := by
  refine calD F m sc__law_numbers (fun _ _ _ _ _ _ us hl => match us, hl with | [_, _], _ => rfl) len2 (fun cdv A outer s H vs Q E hr h => ⟨_, (pss_cons (ps_set (i := 2) sc__law_numbers.nd rfl (Or.inl rfl) (pe_callB call_abs (by rfl) nb.abs (by decide +kernel) (pa_cons (pv 0) pa_nil)))
    (pss_cons (ps_set (i := 3) sc__law_numbers.nd rfl (Or.inl rfl) (pv 2))
    (pss_cons (ps_set (i := 4) sc__law_numbers.nd rfl (Or.inl rfl) (pe_lst pa_nil))
    (pss_cons (ps_for PassesOwn.never rfl (pi_range1 rfl nb.range (pa_cons (pv 1) pa_nil)) (pg_name (i := 5) sc__law_numbers.nd rfl (Or.inl rfl))
    (pss_one (ps_if (PW.pt (pw_and (pt_cmpR op_ge (pv 3) (pe_op op_pow pe_int pe_int) (nomark _)) (pw_and1 (pt_cmpR op_gt (pv 2) pe_int (nomark _)))))
    (pss_cons (ps_expr (pe_bm PySem.F.plainAttrs_list PySem.F.slot_list_append PySem.F.type_list_append mt_append (pv 4) (pa_cons (pe_op op_mod (pe_callTy call_int1 (by rfl) nb.int (by decide +kernel) (pa_cons (pv 2) pa_nil)) pe_int) pa_nil)))
    (pss_one (ps_set (i := 2) sc__law_numbers.nd rfl (Or.inl rfl) (pe_op op_fdiv (pv 2) pe_int))))
    (pss_cons (ps_set (i := 6) sc__law_numbers.nd rfl (Or.inl rfl) (pe_op op_mod (pe_callTy call_int1 (by rfl) nb.int (by decide +kernel) (pa_cons (pe_op op_add (pe_op op_add (pe_op op_mul (pv 3) pe_int) (pe_op op_mul (pv 5) pe_int)) pe_int) pa_nil)) pe_int))
    (pss_cons (ps_set (i := 6) sc__law_numbers.nd rfl (Or.inl rfl) (pe_op op_mod (pe_callTy call_int1 (by rfl) nb.int (by decide +kernel) (pa_cons (pe_op op_add (pe_op op_add (pe_op op_mul (pv 6) (pv 6)) (pe_op op_mul pe_int (pv 5))) pe_int) pa_nil)) pe_int))
    (pss_one (ps_expr (pe_bm PySem.F.plainAttrs_list PySem.F.slot_list_append PySem.F.type_list_append mt_append (pv 4) (pa_cons (pe_op op_mod (pe_callTy call_int1 (by rfl) nb.int (by decide +kernel) (pa_cons (pe_op op_fdiv (pv 6) pe_int) pa_nil)) pe_int) pa_nil)))))))))
    (pss_one (ps_ret (pv 4))))))), ?_⟩)
  obtain ⟨_, _, rfl, z, n, rfl, rfl, hn, h⟩ := h
  walk_at "rd"
  refine ⟨Nat.zero_le _, fun p hp => ?_⟩
  walk_at "rd"
  refine r_turns (by omega) (by omega) (fun i σ H' => ∃ (rest size : Int) (xs : List Int) (k mx : Option V), σ = [some (.int z), some (.int (n : Int)), some (.int rest), some (.int size), some (.ref p), k, mx] ∧ xs.length = i ∧ H' = upd H p (.lst (xs.map V.int))) ⟨_, _, [], none, none, rfl, rfl, rfl⟩ ?_ ?_
  · rintro i σ _ hi ⟨rest, size, xs, k, mx, rfl, hl, rfl⟩
    have hsz : (xs.map V.int).length < sizeLine := small1000 (by rw [List.length_map]; omega)
    have app : ∀ y : Int, upd (upd H p (.lst (xs.map V.int))) p (.lst (xs.map V.int ++ [.int y])) = upd H p (.lst ((xs ++ [y]).map V.int)) := fun y => by
      rw [upd_upd, List.map_append]
      rfl
    have two : ∀ r : Int, ∀ (σ' : St) (k mx : Option V) (rest size : Int), σ' = [some (.int z), some (.int (n : Int)), some (.int rest), some (.int size), some (.ref p), k, mx] → ∃ (rest size : Int) (xs' : List Int) (k mx : Option V), σ' = [some (.int z), some (.int (n : Int)), some (.int rest), some (.int size), some (.ref p), k, mx] ∧ xs'.length = i + 1 ∧ upd (upd H p (.lst (xs.map V.int))) p (.lst (xs.map V.int ++ [.int r])) = upd H p (.lst (xs'.map V.int)) := fun r σ' k mx rest size e =>
      ⟨rest, size, xs ++ [r], k, mx, e, by rw [List.length_append, hl]; rfl, app r⟩
    walk_at "rd"
    refine r_ite (fun c1 => ?_) (fun c1 => ?_)
    · walk_at "rd"
      refine r_ite (fun c2 => ?_) (fun c2 => ?_)
      · walk_at "rd"
        refine ⟨tyL upd_same, ?_⟩
        walk_at "rd"
        refine r_app upd_same hsz ?_
        walk_at "rd"
        exact two _ _ _ _ _ _ rfl
      · walk_at "rd"
        refine r_I (.inl ⟨by omega, by omega⟩) ?_
        walk_at "rd"
        refine ⟨tyL upd_same, ?_⟩
        walk_at "rd"
        refine r_app upd_same hsz ?_
        walk_at "rd"
        exact two _ _ _ _ _ _ rfl
    · walk_at "rd"
      refine r_I (.inl ⟨by omega, by omega⟩) ?_
      walk_at "rd"
      refine ⟨tyL upd_same, ?_⟩
      walk_at "rd"
      refine r_app upd_same hsz ?_
      walk_at "rd"
      exact two _ _ _ _ _ _ rfl
  · rintro σ _ ⟨rest, size, xs, k, mx, rfl, hl, rfl⟩
    walk_at "rd"
    exact h p xs hp (by omega)
theorem ok__law_next (F : FunD K "_law_next" "_law_next" (defArgs s__law_next) (defBody s__law_next) (defScope s__law_next) [] [] (glAd "_law_next" K) fd) (m : mg "_law_next" = some (.ref (glAd "_law_next" K))) (nb : Nm w K mg) : Cal P w K mg base 1 "_law_next" (sp__law_next K) [] := by
  refine calD F m sc__law_next (fun _ _ _ _ _ _ us hl => match us, hl with | [_, _], _ => rfl) len2 (fun cdv A outer s H vs Q E hr h => ⟨_, (pss_cons (ps_set (i := 2) sc__law_next.nd rfl (Or.inl rfl) (pe_ix ix_list (pv 0) pe_int (fun _ _ => rfl)))
    (pss_cons (ps_asg (pe_op op_add (pv 2) pe_int) (pg_sub (pv 0) pe_int set_list))
    (pss_one (ps_ret (pe_op op_mod (pe_callTy call_int1 (by rfl) nb.int (by decide +kernel) (pa_cons (pe_op op_add (pe_ix ix_list (pe_ix ix_list (pv 0) pe_int (fun _ _ => rfl)) (pe_op op_mod (pv 2) pe_int) (fun _ _ => rfl)) (pe_op op_mul pe_int (pe_op op_fdiv (pv 2) pe_int))) pa_nil)) (pv 1)))))), ?_⟩)
  obtain ⟨_, _, rfl, S, l, mm, rfl, rfl, h0, L, h⟩ := h
  obtain ⟨L0, k, f5, e⟩ := L
  have L : LB K S l H := ⟨L0, k, f5, e⟩
  walk_at "rd"
  refine r_ixL (SqL.of e) rfl ?_
  walk_at "rd"
  refine r_setL e rfl ?_
  walk_at "rd"
  have L2 := L.put (k + 1) l f5
  obtain ⟨v, _, ev⟩ := atI_ints (ns := S.nums) (k := k % 120) (by omega) (by rw [L0.len]; omega)
  refine r_ixL (SqL.of upd_same) rfl ?_
  walk_at "rd"
  refine r_ixL (SqL.of L2.ls.nm) ev ?_
  walk_at "rd"
  refine r_I h0 ?_
  exact h _ _ (Int.emod_nonneg _ (by omega)) (Int.emod_lt_of_pos _ h0) L2 (Keep.put _)
theorem ok__law_state (F : FunD K "_law_state" "_law_state" (defArgs s__law_state) (defBody s__law_state) (defScope s__law_state) [] [] (glAd "_law_state" K) fd) (m : mg "_law_state" = some (.ref (glAd "_law_state" K))) (nb : Nm w K mg) (c__law_cell : Cal P w K mg base 1 "_law_cell" (sp__law_cell K) []) (c__law_numbers : Cal P w K mg base 1 "_law_numbers" sp__law_numbers []) : Cal P w K mg base 2 "_law_state" (sp__law_state K) [] := by
  refine calD F m sc__law_state (fun _ _ _ _ _ _ us hl => match us, hl with | [_, _], _ => rfl) len2 (fun cdv A outer s H vs Q E hr h => ⟨_, (pss_cons (ps_set (i := 2) sc__law_state.nd rfl (Or.inl rfl) (pe_lst pa_nil))
    (pss_cons (ps_setLc (i := 4) (own := [("k", 3)]) (g := gName 3) (tt := tYes) rfl sc__law_state.nd rfl rfl (sw_true rfl rfl rfl (by decide +kernel)) (pi_range1 rfl nb.range (pa_cons pe_int pa_nil)) (blkOk_by (N := ["script", "left", "numbers", "k", "parted"]) (sc := defScope s__law_state) (by decide +kernel)) (fun _ _ _ _ _ => pg_name (i := 3) sc__law_state.nd rfl (Or.inl rfl)) (fun _ _ _ _ _ => pts_nil) (fun _ _ _ _ _ => (pe_c c__law_numbers hr (by decide) rfl (pa_cons (pe_c c__law_cell hr (by decide) rfl (pa_cons (pv 0) (pa_cons (pv 3) pa_nil))) (pa_cons pe_int pa_nil)))))
    (pss_cons (ps_for PassesOwn.never rfl (pi_range1 rfl nb.range (pa_cons pe_int pa_nil)) (pg_name (i := 3) sc__law_state.nd rfl (Or.inl rfl))
    (pss_cons (ps_expr (pe_bm PySem.F.plainAttrs_list PySem.F.slot_list_append PySem.F.type_list_append mt_append (pv 2) (pa_cons (pe_ix ix_list (pe_ix ix_list (pv 4) pe_int (fun _ _ => rfl)) (pv 3) (fun _ _ => rfl)) pa_nil)))
    (pss_cons (ps_expr (pe_bm PySem.F.plainAttrs_list PySem.F.slot_list_append PySem.F.type_list_append mt_append (pv 2) (pa_cons (pe_ix ix_list (pe_ix ix_list (pv 4) pe_int (fun _ _ => rfl)) (pv 3) (fun _ _ => rfl)) pa_nil)))
    (pss_one (ps_expr (pe_bm PySem.F.plainAttrs_list PySem.F.slot_list_append PySem.F.type_list_append mt_append (pv 2) (pa_cons (pe_ix ix_list (pe_ix ix_list (pv 4) pe_int (fun _ _ => rfl)) (pv 3) (fun _ _ => rfl)) pa_nil)))))))
    (pss_one (ps_ret (pe_lst (pa_cons (pv 2) (pa_cons pe_int (pa_cons (pv 1) (pa_cons (pv 0) (pa_cons pe_int pa_nil))))))))))), ?_⟩)
  obtain ⟨_, _, rfl, sl, ns, l, rfl, rfl, hs, h⟩ := h
  walk_at "rd"
  refine ⟨Nat.zero_le _, fun p hp => ?_⟩
  walk_at "rd"
  refine r_lcR 3 (by decide) (fun D hD => ?_) (fun R hR => hR)
  have sp0 := same_upd hp (.lst [])
  have pD : p ≠ D := fun e => by
    rw [← e, upd_same] at hD
    cases hD
  refine lc_range (fun i H' => ∃ ps : List Addr, H' D = some (.lst (ps.map V.ref)) ∧ ps.length = i ∧ (∀ q ∈ ps, q ≠ D ∧ ∃ xs : List Int, H' q = some (.lst (xs.map V.int)) ∧ xs.length = 40) ∧ Same (upd H p (.lst [])) H') ⟨[], upd_same, rfl, fun q hq => (by cases hq), same_upd hD _⟩ ?_ ?_
  · rintro i H' hi ⟨ps, e1, e2, e3, e4⟩
    walk_at "rd"
    refine ⟨rfl, ?_⟩
    walk_at "rd"
    have hs' : SqL K H' sl (ns.map V.int) := e4.seq (sp0.seq hs)
    refine ⟨_, _, rfl, sl, ns, _, rfl, rfl, hs', by omega, fun z => ?_⟩
    walk_at "rd"
    refine ⟨_, _, rfl, z, 40, rfl, rfl, by decide, fun q xs hq hx => ?_⟩
    have Dq : D ≠ q := ne_of_none e1 hq
    refine ⟨_, (upd_ne Dq).trans e1, small1000 (by rw [List.length_map]; omega), ps ++ [q], ?_, by rw [List.length_append, e2]; rfl, ?_, ?_⟩
    · rw [upd_same, List.map_append]
      rfl
    · intro q' hq'
      rcases List.mem_append.mp hq' with h1 | h1
      · obtain ⟨n1, xs', x1, x2⟩ := e3 q' h1
        exact ⟨n1, xs', by rw [upd_ne n1, upd_ne (ne_of_none x1 hq)]; exact x1, x2⟩
      · have e5 : q' = q := by simpa using h1
        subst e5
        exact ⟨Ne.symm Dq, xs, by rw [upd_ne (Ne.symm Dq), upd_same], hx⟩
    · intro b o hb
      have hb2 := e4 b o hb
      rw [upd_ne (ne_of_none hb hD), upd_ne (ne_of_none hb2 hq)]
      exact hb2
  · rintro H' ⟨ps, e1, e2, e3, e4⟩
    walk_at "rd"
    obtain ⟨p0, p1, p2, rfl⟩ : ∃ p0 p1 p2, ps = [p0, p1, p2] := match ps, e2 with | [a, b, c], _ => ⟨a, b, c, rfl⟩
    obtain ⟨_, x0, y0, z0⟩ := e3 p0 (by simp)
    obtain ⟨_, x1, y1, z1⟩ := e3 p1 (by simp)
    obtain ⟨_, x2, y2, z2⟩ := e3 p2 (by simp)
    have hp' : H' p = some (.lst []) := e4 _ _ upd_same
    have ne0 : ∀ {q : Addr} {xs : List Int}, H' q = some (.lst (xs.map V.int)) → xs.length = 40 → q ≠ p := fun {q xs} h1 h2 h3 => by
      rw [h3, hp'] at h1
      injection h1 with h1
      injection h1 with h1
      have h4 := congrArg List.length h1
      rw [List.length_map, h2] at h4
      cases h4
    have n0 := ne0 y0 z0
    have n1 := ne0 y1 z1
    have n2 := ne0 y2 z2
    have nD : D ≠ p := Ne.symm pD
    have fit : ∀ (xs : List Int) (i : Nat), xs.length = 40 → (i : Int) < 40 → ∃ v, atI (xs.map V.int) (i : Int) = some (.int v) := fun xs i h1 h2 => by
      obtain ⟨v, _, e⟩ := atI_ints (ns := xs) (k := (i : Int)) (by omega) (by omega)
      exact ⟨v, e⟩
    refine r_turns (by decide) (by decide) (fun i σ H2 => ∃ (zs : List Int) (kk : Option V), σ = [some (.ref sl), some (.int l), some (.ref p), kk, some (.ref D)] ∧ zs.length = 3 * i ∧ H2 = upd H' p (.lst (zs.map V.int))) ⟨[], none, rfl, rfl, ?_⟩ ?_ ?_
    · funext b
      by_cases c : b = p
      · subst c
        rw [upd_same, hp']
        rfl
      · rw [upd_ne c]
    · rintro i σ _ hi ⟨zs, kk, rfl, hz, rfl⟩
      obtain ⟨v0, a0⟩ := fit x0 i z0 hi
      obtain ⟨v1, a1⟩ := fit x1 i z1 hi
      obtain ⟨v2, a2⟩ := fit x2 i z2 hi
      walk_at "rd"
      refine ⟨tyL upd_same, ?_⟩
      walk_at "rd"
      refine r_ixL (SqL.of ((upd_ne nD).trans e1)) rfl ?_
      walk_at "rd"
      refine r_ixL (SqL.of ((upd_ne n0).trans y0)) a0 ?_
      walk_at "rd"
      refine r_app upd_same (small1000 (by rw [List.length_map]; omega)) ?_
      rw [upd_upd]
      walk_at "rd"
      refine ⟨tyL upd_same, ?_⟩
      walk_at "rd"
      refine r_ixL (SqL.of ((upd_ne nD).trans e1)) rfl ?_
      walk_at "rd"
      refine r_ixL (SqL.of ((upd_ne n1).trans y1)) a1 ?_
      walk_at "rd"
      refine r_app upd_same (small1000 (by rw [List.length_append, List.length_map]; show zs.length + 1 ≤ 1000; omega)) ?_
      rw [upd_upd]
      walk_at "rd"
      refine ⟨tyL upd_same, ?_⟩
      walk_at "rd"
      refine r_ixL (SqL.of ((upd_ne nD).trans e1)) rfl ?_
      walk_at "rd"
      refine r_ixL (SqL.of ((upd_ne n2).trans y2)) a2 ?_
      walk_at "rd"
      refine r_app upd_same (small1000 (by rw [List.length_append, List.length_append, List.length_map]; show zs.length + 1 + 1 ≤ 1000; omega)) ?_
      rw [upd_upd]
      exact ⟨zs ++ [v0] ++ [v1] ++ [v2], _, rfl, by simp [hz]; omega, by simp⟩
    · rintro σ _ ⟨zs, kk, rfl, hz, rfl⟩
      walk_at "rd"
      refine ⟨(by show 5 ≤ sizeLine; decide), fun a ha => ?_⟩
      have sa := same_upd ha (.lst [.ref p, .int 0, .int l, .ref sl, .int 3])
      have pa : p ≠ a := ne_of_none upd_same ha
      have all : Same H (upd H' p (.lst (zs.map V.int))) := fun b o hb => by
        rw [upd_ne (ne_of_none hb hp)]
        exact e4 _ _ (sp0 _ _ hb)
      have hsl : SqL K H sl (ns.map V.int) := hs
      refine h ⟨a, p, sl, zs, ns⟩ _ rfl rfl ⟨⟨⟨0, l, 3, upd_same⟩, (upd_ne pa).trans upd_same, by rw [hz]; rfl, pa, sa.seq (all.seq hs)⟩, 0, 3, upd_same⟩ (all.trans sa) (all.free ha)
end

/-! ### draws that keep the budget -/
section
variable {K : PySem.W.Frag} {S : SC} {l : Int} {σ : St} {H : Hp} {Q : VK} {E : XK}
theorem b_next {m : Int} (L : LB K S l H) (hm : 0 < m) (h : ∀ (r : Int) (H' : Hp), 0 ≤ r → r < m → LB K S l H' → Keep S H H' → Q (.int r) H') : sp__law_next K ([.ref S.a, .int m] ++ []) H Q E := ⟨_, _, rfl, S, l, m, rfl, rfl, hm, L, h⟩
/-- [x, y, ..][_law_next(state, n)] -/
theorem b_pick {xs : List V} {n : Int} {i : Nat} (L : LB K S l H) (e : σ[i]? = some (some (.ref S.a))) (hl : xs.length ≤ sizeLine) (hn : 0 < n) (hx : (xs.length : Int) = n)
    (h : ∀ (v : V) (H' : Hp), v ∈ xs → LB K S l H' → Keep S H H' → Q v H') :
    xs.length ≤ sizeLine ∧ ∀ p, H p = none → tCall (sp__law_next K) [] E (tCons (tVar i) (tCons (tC (.int n)) tNil)) σ (upd H p (.lst xs)) fun y H2 => rIxL K (.ref p) y H2 Q := by
  refine ⟨hl, fun p hp => ⟨_, e, ?_⟩⟩
  show sp__law_next K ([.ref S.a, .int n] ++ []) (upd H p (.lst xs)) (fun y H2 => rIxL K (.ref p) y H2 Q) E
  refine b_next (L.new hp _) hn fun r H' h0 h1 L' k => ?_
  have hr : r.toNat < xs.length := by omega
  have er : r = ((r.toNat : Nat) : Int) := by omega
  refine ⟨p, xs, r, xs[r.toNat], rfl, rfl, SqL.of (k _ _ (L.ne_free hp) upd_same), ?_, ?_⟩
  · have q := atI_nat (xs := xs) (j := r.toNat) (v := xs[r.toNat]) (List.getElem?_eq_getElem hr)
    rw [← er] at q
    exact q
  · exact h _ _ (List.getElem_mem hr) L' ((Keep.of (same_upd hp _)).trans k)
/-- the same, all of them numbers from lo to hi -/
theorem b_pickI {xs : List V} {n : Int} {i : Nat} (lo hi : Int) (L : LB K S l H) (e : σ[i]? = some (some (.ref S.a))) (hl : xs.length ≤ sizeLine) (hn : 0 < n) (hx : (xs.length : Int) = n) (hz : ∀ v ∈ xs, ∃ z, v = V.int z ∧ lo ≤ z ∧ z ≤ hi)
    (h : ∀ (z : Int) (H' : Hp), lo ≤ z → z ≤ hi → V.int z ∈ xs → LB K S l H' → Keep S H H' → Q (.int z) H') :
    xs.length ≤ sizeLine ∧ ∀ p, H p = none → tCall (sp__law_next K) [] E (tCons (tVar i) (tCons (tC (.int n)) tNil)) σ (upd H p (.lst xs)) fun y H2 => rIxL K (.ref p) y H2 Q :=
  b_pick L e hl hn hx fun v H' hv L' k => by
    obtain ⟨z, rfl, h1, h2⟩ := hz v hv
    exact h z H' h1 h2 hv L' k
theorem bl_nil {p : V → Prop} : ∀ v ∈ ([] : List V), p v := fun v hv => by cases hv
theorem bl_cons {p : V → Prop} {x : V} {xs : List V} (h : p x) (t : ∀ v ∈ xs, p v) : ∀ v ∈ x :: xs, p v := fun v hv => by
  rcases List.mem_cons.mp hv with e | e
  · rw [e]
    exact h
  · exact t v e
theorem b_new {o : HO} {p : Addr} (L : LB K S l H) (hp : H p = none) : ∃ H', upd H p o = H' ∧ LB K S l H' ∧ Same H H' ∧ H' p = some o ∧ p ≠ S.a := ⟨_, rfl, L.new hp o, same_upd hp o, upd_same, L.ne_free hp⟩
end

/-! ### slices, comprehensions, objects: rules of general use -/
section
variable {σ : St} {H : Hp} {n b c : St → Hp → Prop} {r : VK} {Q : VK} {K : Frg} {a C dx : Addr} {fs : List (Str × V)} {f : Str} {v : V}
theorem r_fsetK {R : Hp → Prop} {fs' : List (Str × V)} (h : H a = some (.ins C dx fs)) (cl : Cls K C) (na : NoAttr K C f) (hl : fs.length < 1000) (e : putF f v fs = fs') (q : ∀ H', H' a = some (.ins C dx fs') → (∀ b, b ≠ a → H' b = H b) → R H') :
    ∃ a' C dx fs, V.ref a = .ref a' ∧ H a' = some (.ins C dx fs) ∧ Cls K C ∧ NoAttr K C f ∧ fs.length < 1000 ∧ R (upd H a' (.ins C dx (putF f v fs))) := r_fset h cl na hl e (q _ upd_same fun _ hb => upd_ne hb)
theorem r_appK {p : Addr} {xs : List V} {y : V} (h : H p = some (.lst xs)) (hl : xs.length < sizeLine) (q : ∀ H', H' p = some (.lst (xs ++ [y])) → (∀ b, b ≠ p → H' b = H b) → Q .non H') : rAppend (.ref p) [y] H Q := r_app h hl (q _ upd_same fun _ hb => upd_ne hb)
theorem r_gfldV {R : St → Hp → Prop} {fs' : List (Str × V)} {k : Nat} (ek : σ[k]? = some (some (.ref a))) (h : H a = some (.ins C dx fs)) (cl : Cls K C) (na : NoAttr K C f) (hl : fs.length < 1000) (e : putF f v fs = fs') (q : ∀ H', H' a = some (.ins C dx fs') → (∀ b, b ≠ a → H' b = H b) → R σ H') : gFld K (tVar k) f v σ H R :=
  ⟨_, ek, a, C, dx, fs, rfl, h, cl, na, hl, by rw [e]; exact q _ upd_same fun _ hb => upd_ne hb⟩
end
def But (a l : Addr) (H H' : Hp) : Prop := ∀ b u, b ≠ a → b ≠ l → H b = some u → H' b = some u
theorem map_snoc (ps : List Int) (x : Int) : ps.map V.int ++ [V.int x] = (ps ++ [x]).map V.int := by simp
theorem dp_tup {K : Frg} {H : Hp} {v : V} {ds : List PyData} (h : Dp K H v (.tuple ds)) : ∃ a xs, v = .ref a ∧ SqT K H a xs ∧ DpAll K H xs ds := by
  cases h
  exact ⟨_, _, rfl, by assumption, by assumption⟩
theorem dp_get {K : Frg} {H : Hp} : ∀ {xs : List V} {ds : List PyData} {i : Nat} {x : V}, DpAll K H xs ds → xs[i]? = some x → ∃ d, ds[i]? = some d ∧ Dp K H x d
  | [], _, _, _, _, e => by cases e
  | x :: xs, _, 0, _, .cons h t, e => by
    cases e
    exact ⟨_, rfl, h⟩
  | x :: xs, _, i + 1, _, .cons h t, e => by
    obtain ⟨d, e1, h1⟩ := dp_get (i := i) t e
    exact ⟨d, e1, h1⟩
theorem dp_len {K : Frg} {H : Hp} : ∀ {xs : List V} {ds : List PyData}, DpAll K H xs ds → xs.length = ds.length
  | [], _, .nil => rfl
  | _ :: _, _, .cons _ t => congrArg (· + 1) (dp_len t)
theorem dp_ints {K : Frg} {H : Hp} : ∀ {xs : List V} (ns : List Int), DpAll K H xs (ns.map PyData.int) → xs = ns.map V.int
  | _, [], h => by
    cases h
    rfl
  | _, n :: ns, h => by
    cases h with
    | cons h t =>
      cases h
      rw [dp_ints ns t]
      rfl
theorem dpa_ints {K : Frg} {H : Hp} : ∀ (ns : List Int), DpAll K H (ns.map V.int) (ns.map PyData.int)
  | [] => .nil
  | n :: ns => .cons (.int n) (dpa_ints ns)
theorem shaped_ints (ns : List Int) : SeqAt.shaped (.list (ns.map PyData.int)) = true := PySem.W.ke_shaped_ints ns
theorem ints_get {cs : List Int} {i : Nat} {x : V} (e : (cs.map V.int)[i]? = some x) : ∃ c, cs[i]? = some c ∧ x = .int c ∧ cs.take (i + 1) = cs.take i ++ [c] := by
  rw [List.getElem?_map] at e
  obtain ⟨c, h, rfl⟩ := Option.map_eq_some_iff.mp e
  refine ⟨c, h, rfl, ?_⟩
  rw [List.take_succ, h]
  rfl
theorem ints_step {cs : List Int} {i : Nat} {c : Int} (h : cs[i]? = some c) : cs.take (i + 1) = cs.take i ++ [c] := by
  rw [List.take_succ, h]
  rfl
/-- the state stays when a place changes that was free at an earlier heap -/
theorem LS.away {K : PySem.W.Frag} {S : SC} {H1 H' : Hp} (L1 : LS K S H1) {D : Addr} (hD : H1 D = none) (L : LS K S H') (o : HO) : LS K S (upd H' D o) := by
  obtain ⟨⟨k, l, f, e⟩, h2, h3, h4, h5⟩ := L1
  obtain ⟨⟨k', l', f', e'⟩, h2', _, _, h5'⟩ := L
  have n : ∀ {b : Addr} {u : HO}, H1 b = some u → b ≠ D := fun h z => by
    rw [z, hD] at h
    cases h
  refine ⟨⟨k', l', f', (upd_ne (n e)).trans e'⟩, (upd_ne (n h2)).trans h2', h3, h4, ?_⟩
  rcases h5 with (h | ⟨u, h⟩) | h
  · exact seq_upd h5' (n h)
  · exact seq_upd h5' (n h)
  · exact .inr h
theorem r_sl {σ : St} {H : Hp} {Q : VK} {r : V → Option Int → Option Int → Hp → VK → Prop} {te : TE} {tl th : TO} (h : te σ H fun x H1 => tl σ H1 fun l H2 => th σ H2 fun u H3 => r x l u H3 Q) : tSl r te tl th σ H Q := h
theorem r_part {σ : St} {H : Hp} {t : TE} {Q : Option Int → Hp → Prop} (h : t σ H fun x H1 => ∃ i, x = .int i ∧ Q (some i) H1) : tPart t σ H Q := h
theorem r_some {i : Int} {Q : Option Int → Prop} (h : Q (some i)) : ∃ j, V.int i = .int j ∧ Q (some j) := ⟨i, rfl, h⟩
theorem r_nopart {σ : St} {H : Hp} {Q : Option Int → Hp → Prop} (h : Q none H) : tNoPart σ H Q := h
theorem r_slL {K : PySem.W.Frag} {p : Addr} {xs : List V} {lo hi : Option Int} {H : Hp} {Q : VK} (hs : SqL K H p xs) (h : ∀ q, H q = none → Q (.ref q) (upd H q (.lst (cutV xs lo hi)))) : rSlL K (.ref p) lo hi H Q := ⟨p, xs, rfl, hs, h⟩
theorem cut_tl {v : V} {xs : List V} : cutV (v :: xs) (some 1) none = xs := by
  have e : HT.sIx (v :: xs).length 0 (some 1) = 1 := (HT.sIx_nat (v :: xs).length 0 1).trans (by show min 1 (xs.length + 1) = 1; omega)
  unfold cutV
  rw [e, HT.sIx_none]
  show xs.take (xs.length + 1 - 1) = xs
  simp
theorem r_min2 {σ : St} {H : Hp} {Q : VK} {K : PySem.W.Frag} {p : Addr} {x y : Int} (hs : H p = some (.lst [.int x, .int y])) (h : Q (.int (min x y)) H) : rMin K [.ref p] H Q := by
  refine ⟨p, [x, y], rfl, SqL.of hs, by show 0 < 2; decide, fun m hm hle => ?_⟩
  have h1 := hle x (by simp)
  have h2 := hle y (by simp)
  have e : m = min x y := by
    rcases List.mem_cons.mp hm with e | e
    · omega
    · rcases List.mem_cons.mp e with e | e
      · omega
      · cases e
  rw [e]
  exact h
theorem at0 {v : V} {xs : List V} : atI (v :: xs) 0 = some v := atI_nat (xs := v :: xs) (j := 0) rfl
theorem cut_ints (zs : List Int) (lo hi : Option Int) : ∃ ws : List Int, cutV (zs.map V.int) lo hi = ws.map V.int ∧ (∀ x ∈ ws, x ∈ zs) ∧ ws.length ≤ zs.length := by
  refine ⟨(zs.drop (HT.sIx (zs.map V.int).length 0 lo)).take (HT.sIx (zs.map V.int).length (zs.map V.int).length hi - HT.sIx (zs.map V.int).length 0 lo), ?_, ?_, ?_⟩
  · unfold cutV
    rw [List.map_take, List.map_drop]
  · intro x hx
    exact List.mem_of_mem_drop (List.mem_of_mem_take hx)
  · rw [List.length_take, List.length_drop]
    omega
/-- a slice of a row of numbers in a slot -/
theorem d_cut {σ : St} {H : Hp} {Q : VK} {K : PySem.W.Frag} {k : Nat} {o : Addr} {zs : List Int} {tl th : TO} (lo hi : Option Int) (e : σ[k]? = some (some (.ref o))) (g : H o = some (.lst (zs.map V.int))) (hl : ∀ R : Option Int → Hp → Prop, R lo H → tl σ H R) (hh : ∀ R : Option Int → Hp → Prop, R hi H → th σ H R)
    (h : ∀ (q : Addr) (ws : List Int), H q = none → (∀ x ∈ ws, x ∈ zs) → ws.length ≤ zs.length → Q (.ref q) (upd H q (.lst (ws.map V.int)))) : tSl (rSlL K) (tVar k) tl th σ H Q := by
  refine r_sl ⟨_, e, hl _ (hh _ ?_)⟩
  obtain ⟨ws, e1, e2, e3⟩ := cut_ints zs lo hi
  refine r_slL (SqL.of g) fun q nq => ?_
  rw [e1]
  exact h q ws nq e2 e3
theorem cat_ints (a b : List Int) : a.map V.int ++ b.map V.int = (a ++ b).map V.int := by simp
theorem LS.but {K : PySem.W.Frag} {S : SC} {H1 H H' : Hp} (L1 : LS K S H1) {m l : Addr} (hm : H1 m = none) (hl : H1 l = none) (L : LS K S H) (b : But m l H H') : LS K S H' := by
  obtain ⟨⟨k, l', f, e⟩, h2, h3, h4, h5⟩ := L1
  obtain ⟨⟨k', l'', f', e'⟩, h2', _, _, h5'⟩ := L
  have n1 : ∀ {b : Addr} {u : HO}, H1 b = some u → b ≠ m := fun h z => by
    rw [z, hm] at h
    cases h
  have n2 : ∀ {b : Addr} {u : HO}, H1 b = some u → b ≠ l := fun h z => by
    rw [z, hl] at h
    cases h
  refine ⟨⟨k', l'', f', b _ _ (n1 e) (n2 e) e'⟩, b _ _ (n1 h2) (n2 h2) h2', h3, h4, ?_⟩
  have go : S.sl ≠ m → S.sl ≠ l → SqL K H' S.sl (S.ns.map V.int) := fun q1 q2 => by
    rcases h5' with (h | ⟨u, h⟩) | h
    · exact .inl (.inl (b _ _ q1 q2 h))
    · exact .inl (.inr ⟨u, b _ _ q1 q2 h⟩)
    · exact .inr h
  rcases h5 with (h | ⟨u, h⟩) | h
  · exact go (n1 h) (n2 h)
  · exact go (n1 h) (n2 h)
  · exact .inr h
theorem But.refl (a l : Addr) (H : Hp) : But a l H H := fun _ _ _ _ z => z
theorem But.trans {a l : Addr} {H H1 H2 : Hp} (x : But a l H H1) (y : But a l H1 H2) : But a l H H2 := fun b u p q z => y b u p q (x b u p q z)
theorem But.same {a l : Addr} {H H1 : Hp} (x : Same H H1) : But a l H H1 := fun b u _ _ z => x b u z
theorem cut_to {zs : List Int} {d : Nat} (h : d ≤ zs.length) : cutV (zs.map V.int) none (some (d : Nat)) = (zs.take d).map V.int := by
  unfold cutV
  rw [HT.sIx_nat, HT.sIx_none, List.length_map, Nat.min_eq_left h, List.drop_zero, Nat.sub_zero, List.map_take]
theorem r_lcL {σ : St} {H : Hp} {Q : VK} {K : PySem.W.Frag} {tl : TE} {g : TG} {tt : TT} {te : TE} {vs : List Nat} (h : tl σ H fun x H1 => ∃ a, x = .ref a ∧ (∃ xs, SqL K H1 a xs) ∧ ∀ D, H1 D = none → ∃ W : Nat → Nat → Hp → Prop, (∃ m, W 0 m (upd H1 D (.lst []))) ∧ ∀ i m H, W i m H →
  ((Itl K a).stop i H ∧ Q (.ref D) H) ∨ ((Itl K a).go i H ∧ ∃ Nx : Hp → Prop, (∀ H', Nx H' → ∃ m', m' < m ∧ W (i + 1) m' H') ∧ ∀ x H', (Itl K a).yld i H x H' → g x (wipe σ vs) H' fun σ2 H2 => wipe σ2 vs = wipe σ vs ∧ tt σ2 H2 fun b H3 =>
    if b = true then te σ2 H3 fun y H4 => ∃ acc, H4 D = some (.lst acc) ∧ acc.length < sizeLine ∧ Nx (upd H4 D (.lst (acc ++ [y]))) else Nx H3)) : tLc (iList K tl) g tt te vs σ H Q := h
/-- a for over range(j), what stands behind a break known -/
theorem r_turnsB {σ : St} {H : Hp} {n : St → Hp → Prop} {r : VK} {j : Int} {g : TG} {tb : TS} (h1 : -(2 ^ 62) ≤ j) (h2 : j < 2 ^ 62) (M : St → Hp → Prop) (hM : ∀ σ H, M σ H → n σ H) (Pv : Nat → St → Hp → Prop) (h0 : Pv 0 σ H)
    (hs : (∀ σ H, M σ H → n σ H) → ∀ (i : Nat) σ H, (i : Int) < j → Pv i σ H → g (.int (i : Int)) σ H fun σ2 H2 => tb ⟨Pv (i + 1), r, n, Pv (i + 1)⟩ σ2 H2) (hd : ∀ σ H, Pv j.toNat σ H → M σ H) :
    -(2 ^ 62) ≤ j ∧ j < 2 ^ 62 ∧ ∃ W : Nat → Nat → St → Hp → Prop, (∃ m, W 0 m σ H) ∧ ∀ i m σ H, W i m σ H →
    ((Itr 0 j.toNat).stop i H ∧ n σ H) ∨ ((Itr 0 j.toNat).go i H ∧ ∃ N : St → Hp → Prop, (∀ σ' H', N σ' H' → ∃ m', m' < m ∧ W (i + 1) m' σ' H') ∧ ∀ x H', (Itr 0 j.toNat).yld i H x H' → g x σ H' fun σ2 H2 => tb ⟨N, r, n, N⟩ σ2 H2) :=
  r_turns h1 h2 Pv h0 (hs hM) fun σ H p => hM σ H (hd σ H p)
theorem at_end (a : List Int) (v : Int) : atI ((a ++ [v]).map V.int) ((((a ++ [v]).length : Nat) : Int) - 1) = some (.int v) := by
  rw [show (((a ++ [v]).length : Nat) : Int) - 1 = ((a.length : Nat) : Int) by rw [List.length_append]; show ((a.length + 1 : Nat) : Int) - 1 = _; omega]
  refine atI_nat ?_
  rw [List.getElem?_map, List.getElem?_append_right (Nat.le_refl _), Nat.sub_self]
  rfl
theorem r_lc0 {σ : St} {H : Hp} {Q : VK} {ta : TA} {g : TG} {tt : TT} {te : TE} {vs : List Nat} (h : ta σ H fun ws H1 => ∃ j : Int, ws = [.int j] ∧ -(2 ^ 62) ≤ j ∧ j < 2 ^ 62 ∧ ∀ D, H1 D = none → ∃ W : Nat → Nat → Hp → Prop, (∃ m, W 0 m (upd H1 D (.lst []))) ∧ ∀ i m H, W i m H →
  ((Itr 0 j.toNat).stop i H ∧ Q (.ref D) H) ∨ ((Itr 0 j.toNat).go i H ∧ ∃ Nx : Hp → Prop, (∀ H', Nx H' → ∃ m', m' < m ∧ W (i + 1) m' H') ∧ ∀ x H', (Itr 0 j.toNat).yld i H x H' → g x (wipe σ vs) H' fun σ2 H2 => wipe σ2 vs = wipe σ vs ∧ tt σ2 H2 fun b H3 =>
    if b = true then te σ2 H3 fun y H4 => ∃ acc, H4 D = some (.lst acc) ∧ acc.length < sizeLine ∧ Nx (upd H4 D (.lst (acc ++ [y]))) else Nx H3)) : tLc (iRng1 ta) g tt te vs σ H Q := h

/-! ### more rules of general use -/
theorem r_lcT {σ : St} {H : Hp} {Q : VK} {K : PySem.W.Frag} {tl : TE} {g : TG} {tt : TT} {te : TE} {vs : List Nat} (h : tl σ H fun x H1 => ∃ a, x = .ref a ∧ (∃ xs, SqT K H1 a xs) ∧ ∀ D, H1 D = none → ∃ W : Nat → Nat → Hp → Prop, (∃ m, W 0 m (upd H1 D (.lst []))) ∧ ∀ i m H, W i m H →
  ((Itt K a).stop i H ∧ Q (.ref D) H) ∨ ((Itt K a).go i H ∧ ∃ Nx : Hp → Prop, (∀ H', Nx H' → ∃ m', m' < m ∧ W (i + 1) m' H') ∧ ∀ x H', (Itt K a).yld i H x H' → g x (wipe σ vs) H' fun σ2 H2 => wipe σ2 vs = wipe σ vs ∧ tt σ2 H2 fun b H3 =>
    if b = true then te σ2 H3 fun y H4 => ∃ acc, H4 D = some (.lst acc) ∧ acc.length < sizeLine ∧ Nx (upd H4 D (.lst (acc ++ [y]))) else Nx H3)) : tLc (iTup K tl) g tt te vs σ H Q := h
theorem r_gunl {σ : St} {H : Hp} {K : PySem.W.Frag} {p : Addr} {xs : List V} {n : Nat} {t : TGs} {R : St → Hp → Prop} (hs : SqL K H p xs) (hl : xs.length = n) (h : t xs σ H R) : gUnl K n t (.ref p) σ H R := ⟨p, xs, rfl, hs, hl, h⟩
theorem cut_from {zs : List Int} {d : Nat} : cutV (zs.map V.int) (some (d : Nat)) none = (zs.drop d).map V.int := by
  unfold cutV
  rw [HT.sIx_nat, HT.sIx_none, List.length_map]
  by_cases h : d ≤ zs.length
  · rw [Nat.min_eq_left h, List.take_of_length_le (by rw [List.length_drop, List.length_map]; omega), List.map_drop]
  · rw [Nat.min_eq_right (by omega), List.drop_of_length_le (by rw [List.length_map]; omega), List.drop_of_length_le (by omega)]
    simp
theorem cut_mid {zs : List Int} {d e : Nat} (h : d ≤ e) : cutV (zs.map V.int) (some (d : Nat)) (some (e : Nat)) = ((zs.drop d).take (e - d)).map V.int := by
  unfold cutV
  rw [HT.sIx_nat, HT.sIx_nat, List.length_map]
  by_cases h1 : e ≤ zs.length
  · rw [Nat.min_eq_left h1, Nat.min_eq_left (by omega), List.map_take, List.map_drop]
  · by_cases h2 : d ≤ zs.length
    · rw [Nat.min_eq_right (by omega), Nat.min_eq_left h2, List.map_take, List.map_drop, List.take_of_length_le (by rw [List.length_drop, List.length_map]; omega), List.take_of_length_le (by rw [List.length_drop, List.length_map]; omega)]
    · rw [Nat.min_eq_right (by omega), Nat.min_eq_right (by omega), Nat.sub_self, List.take_zero, List.drop_of_length_le (l := zs) (by omega)]
      simp
theorem cut_to' {zs : List Int} {d : Nat} : cutV (zs.map V.int) none (some (d : Nat)) = (zs.take d).map V.int := by
  unfold cutV
  rw [HT.sIx_nat, HT.sIx_none, List.length_map, List.drop_zero, Nat.sub_zero, List.map_take]
  by_cases h : d ≤ zs.length
  · rw [Nat.min_eq_left h]
  · rw [Nat.min_eq_right (by omega), List.take_of_length_le (by rw [List.length_map]; omega), List.take_of_length_le (by rw [List.length_map]; omega)]
/-- list + list, both of integers -/
theorem r_catI {a b : Addr} {xs ys : List Int} {H : Hp} {Q : VK} (h1 : H a = some (.lst (xs.map V.int))) (h2 : H b = some (.lst (ys.map V.int))) (hl : xs.length + ys.length ≤ 1000) (h : ∀ p H', H p = none → H' p = some (.lst ((xs ++ ys).map V.int)) → Same H H' → Q (.ref p) H') : rCat (.ref a) (.ref b) H Q :=
  ⟨a, b, _, _, rfl, rfl, h1, h2, Nat.le_of_lt (small1000 (by rw [List.length_map, List.length_map]; exact hl)), fun p hp => h p _ hp (by rw [upd_same, cat_ints]) (same_upd hp _)⟩
theorem r_slI {K : PySem.W.Frag} {p : Addr} {xs ys : List Int} {lo hi : Option Int} {H : Hp} {Q : VK} (hs : H p = some (.lst (xs.map V.int))) (e : cutV (xs.map V.int) lo hi = ys.map V.int) (h : ∀ q H', H q = none → H' q = some (.lst (ys.map V.int)) → Same H H' → Q (.ref q) H') : rSlL K (.ref p) lo hi H Q :=
  r_slL (SqL.of hs) fun q hq => h q _ hq (by rw [upd_same, e]) (same_upd hq _)
/-- a new list or tuple -/
theorem r_nw {o : HO} {R : Addr → Hp → Prop} {c : Prop} {H : Hp} (hc : c) (h : ∀ (p : Addr) (H' : Hp), H p = none → H' p = some o → Same H H' → R p H') : c ∧ ∀ p, H p = none → R p (upd H p o) :=
  ⟨hc, fun p hp => h p _ hp upd_same (same_upd hp o)⟩
theorem r_nwI {zs : List Int} {R : Addr → Hp → Prop} {c : Prop} {H : Hp} (hc : c) (h : ∀ (p : Addr) (H' : Hp), H p = none → H' p = some (.lst (zs.map V.int)) → Same H H' → R p H') : c ∧ ∀ p, H p = none → R p (upd H p (.lst (zs.map V.int))) :=
  r_nw hc h
theorem same_tup {K : PySem.W.Frag} {H H' : Hp} {a : Addr} {xs : List V} (e : Same H H') (h : SqT K H a xs) : SqT K H' a xs := by
  rcases h with (h | ⟨o, h⟩) | h
  · exact .inl (.inl (e _ _ h))
  · exact .inl (.inr ⟨o, e _ _ h⟩)
  · exact .inr h
theorem same_seq {K : PySem.W.Frag} {H H' : Hp} {a : Addr} {xs : List V} (e : Same H H') (h : SqL K H a xs ∨ SqT K H a xs) : SqL K H' a xs ∨ SqT K H' a xs := h.elim (fun q => .inl (e.seq q)) fun q => .inr (same_tup e q)
theorem same_away {H1 H' : Hp} {D : Addr} {o : HO} (s : Same H1 H') (n : H1 D = none) : Same H1 (upd H' D o) := fun b u h => by
  rw [upd_ne (ne_of_none h n)]
  exact s b u h
theorem rep1 (n : Nat) (z : Int) : (List.replicate n [V.int z]).flatten = (List.replicate n z).map V.int := by
  induction n with
  | zero => rfl
  | succ n ih => rw [List.replicate_succ, List.replicate_succ, List.flatten_cons, ih]; rfl
/-- [z] * k -/
theorem r_repI {a : Addr} {z k : Int} {H : Hp} {Q : VK} (h1 : H a = some (.lst [.int z])) (h0 : -1000 ≤ k) (hk : k ≤ 1000) (h : ∀ p H', H p = none → H' p = some (.lst ((List.replicate k.toNat z).map V.int)) → Same H H' → Q (.ref p) H') : rRep (.ref a) (.int k) H Q :=
  ⟨a, k, [.int z], rfl, rfl, h1, by omega, by omega, Nat.le_of_lt (small1000 (by show 1 * _ ≤ 1000; omega)), fun p hp => h p _ hp (by rw [upd_same, rep1]) (same_upd hp _)⟩
def sp0 (f : Hp → VK → XK → Prop) : Sp := fun vs H Q E => vs = [] ∧ f H Q E
theorem len0 {f} (vs : List V) (H : Hp) (Q : VK) (E : XK) (h : sp0 f vs H Q E) : vs.length = 0 := by
  obtain ⟨rfl, _⟩ := h
  rfl
theorem ffl {i : Int} (h1 : -(2 ^ 62) ≤ i) (h2 : i < 2 ^ 62) : Builtin.Range.rangeFitsLong i = true := by
  unfold Builtin.Range.rangeFitsLong
  rw [decide_eq_true (by omega), decide_eq_true (by omega)]
  rfl
theorem rgP (n c k : Nat) (hn : n < 2 ^ 60) (h0 : 0 < c) (hc : c < 1000) (hk : k = (n + (c - 1)) / c) : RgC 0 (n : Nat) (c : Nat) k := by
  have hkn : k ≤ n + (c - 1) := by
    rw [hk]
    exact Nat.div_le_self _ _
  have e : Builtin.Range.rangeSize 0 (n : Nat) (c : Nat) = ((k : Nat) : Int) := by
    unfold Builtin.Range.rangeSize
    rw [if_pos (by omega)]
    by_cases z : n = 0
    · subst z
      rw [if_neg (by omega)]
      have : k = 0 := by rw [hk, Nat.zero_add]; exact Nat.div_eq_of_lt (by omega)
      omega
    · rw [if_pos (by omega)]
      have e1 : ((n : Nat) : Int) - 0 - 1 = ((n - 1 : Nat) : Int) := by omega
      rw [e1]
      have e2 : (n + (c - 1)) / c = (n - 1) / c + 1 := by
        rw [show n + (c - 1) = n - 1 + c by omega, Nat.add_div_right _ h0]
      rw [hk, e2]
      simp
  have hs : Builtin.Range.small 0 (n : Nat) (c : Nat) = true := by
    unfold Builtin.Range.small
    rw [e, ffl (by decide) (by decide), ffl (by omega) (by omega), ffl (by omega) (by omega), ffl (by omega) (by omega), if_pos (by omega), ffl (by omega) (by omega)]
    simp
  exact ⟨by omega, by omega, hs, e⟩
/-- list.extend -/
theorem r_extI {a b : Addr} {xs ys : List Int} {H : Hp} {Q : VK} (h1 : H a = some (.lst (xs.map V.int))) (h2 : H b = some (.lst (ys.map V.int))) (hl : xs.length + ys.length ≤ 4000) (h : ∀ H', H' a = some (.lst ((xs ++ ys).map V.int)) → (∀ b o, b ≠ a → H b = some o → H' b = some o) → (∀ H1, Same H1 H → H1 a = none → Same H1 H') → Q .non H') : rExtend (.ref a) [.ref b] H Q :=
  ⟨a, b, _, _, rfl, rfl, h1, h2, Nat.le_trans (by rw [List.length_map, List.length_map]; exact hl) (by decide : 4000 ≤ sizeLine), h _ (by rw [upd_same, cat_ints]) (fun b o n e => by rw [upd_ne n]; exact e) fun H1 s n => same_away s n⟩
/-- a slice of a row, list or tuple -/
theorem r_slSeq {K : PySem.W.Frag} {p : Addr} {xs : List Int} {d e : Nat} {H : Hp} {Q : VK} (hde : d ≤ e) (hs : SqL K H p (xs.map V.int) ∨ SqT K H p (xs.map V.int)) (h : ∀ q H', SqL K H' q (((xs.drop d).take (e - d)).map V.int) ∨ SqT K H' q (((xs.drop d).take (e - d)).map V.int) → Same H H' → Q (.ref q) H') : rSlL K (.ref p) (some (d : Nat)) (some (e : Nat)) H Q ∨ rSlA K (.ref p) (some (d : Nat)) (some (e : Nat)) H Q := by
  rcases hs with hs | hs
  · refine .inl (r_slL hs fun q hq => h q _ (.inl (SqL.of ?_)) (same_upd hq _))
    rw [upd_same, cut_mid hde]
  · refine .inr ⟨p, _, rfl, hs, fun hw => ?_, fun _ q hq => ?_⟩
    · refine h p H (.inr ?_) (Same.refl H)
      obtain ⟨w1, w2⟩ := hw
      rw [HT.sIx_nat, List.length_map] at w1 w2
      by_cases c : d = 0
      · subst c
        rw [List.drop_zero, List.take_of_length_le (by omega)]
        exact hs
      · have e0 : xs.length = 0 := by omega
        have e1 : xs = [] := List.length_eq_zero_iff.mp e0
        subst e1
        simpa using hs
    · refine h q _ (.inr (SqT.of ?_)) (same_upd hq _)
      rw [upd_same, cut_mid hde]
theorem pe_c0 {X : Cx} {k j : Nat} {x : Str} {sp : Sp} {dvs : List V} {p pos : Pos} (c : Cal X.prog X.w X.K X.mg X.base k x sp dvs) (hr : Room j X.A) (hk : k ≤ j) (hg : Gl X x) (hdb : (x == ("__debug__" : Str)) = false := by decide) : PE X (.Call (.Name x p) [] [] pos) (tCall sp dvs C8.E0 tNil) := by
  obtain ⟨f, fd, ps, ds, F, hm, hk', b, d⟩ := c.ex
  exact pe_call0 F (hr.mono hk) hg hm hk' b d pass0 hdb

theorem eqv_ints (a b : List Int) : PyData.eqv (.list (a.map PyData.int)) (.list (b.map PyData.int)) = decide (a = b) := PySem.W.ked_eqvAll a b
/-- two rows of integers compared -/
theorem r_eqIL {K : PySem.W.Frag} {p q : Addr} {a b : List Int} {H : Hp} {Q : VK} (h1 : SqL K H p (a.map V.int)) (h2 : SqL K H q (b.map V.int)) (h : Q (.bl (decide (a = b))) H) : rEqD K (.ref p) (.ref q) H Q :=
  r_eqD (.lst h1 (dpa_ints _)) (.lst h2 (dpa_ints _)) (shaped_ints _) (shaped_ints _) (by rw [eqv_ints]; exact h)
theorem r_neIL {K : PySem.W.Frag} {p q : Addr} {a b : List Int} {H : Hp} {Q : VK} (h1 : SqL K H p (a.map V.int)) (h2 : SqL K H q (b.map V.int)) (h : Q (.bl (!decide (a = b))) H) : rNeD K (.ref p) (.ref q) H Q :=
  r_neD (.lst h1 (dpa_ints _)) (.lst h2 (dpa_ints _)) (shaped_ints _) (shaped_ints _) (by rw [eqv_ints]; exact h)
/-- a for over a text -/
theorem r_eachS {σ : St} {H : Hp} {n : St → Hp → Prop} {r : VK} {g : TG} {tb : TS} {z : Str} (Pv : Nat → St → Hp → Prop) (h0 : Pv 0 σ H)
    (hs : ∀ (i : Nat) (c : Nat) σ H, z.cps[i]? = some c → Pv i σ H → g (.str ⟨#[c]⟩) σ H fun σ2 H2 => tb ⟨Pv (i + 1), r, n, Pv (i + 1)⟩ σ2 H2) (hd : ∀ σ H, Pv z.cps.size σ H → n σ H) :
    ∃ W : Nat → Nat → St → Hp → Prop, (∃ m, W 0 m σ H) ∧ ∀ i m σ H, W i m σ H →
    ((Its z).stop i H ∧ n σ H) ∨ ((Its z).go i H ∧ ∃ N : St → Hp → Prop, (∀ σ' H', N σ' H' → ∃ m', m' < m ∧ W (i + 1) m' σ' H') ∧ ∀ x H', (Its z).yld i H x H' → g x σ H' fun σ2 H2 => tb ⟨N, r, n, N⟩ σ2 H2) := by
  refine r_each z.cps.size Pv h0 (fun i σ H hi p => ⟨hi, ?_⟩) fun σ H p => ⟨Nat.le_refl _, hd σ H p⟩
  rintro x _ ⟨rfl, c, hc, rfl⟩
  exact hs i c σ _ hc p
theorem r_itS {σ : St} {H : Hp} {te : TE} {R : It → Hp → Prop} (h : te σ H fun v H1 => ∃ x, v = .str x ∧ R (Its x) H1) : iStr te σ H R := h
def rLenK (K : Frg) : List V → Hp → VK → Prop := fun xs H Q => ∃ p ys, xs = [.ref p] ∧ (SqL K H p ys ∨ SqT K H p ys) ∧ Q (.int ys.length) H
def rListK (K : Frg) : List V → Hp → VK → Prop := fun xs H Q => ∃ p ys, xs = [.ref p] ∧ (SqL K H p ys ∨ SqT K H p ys) ∧ ∀ l, H l = none → Q (.ref l) (upd H l (.lst ys))
def rTupleK (K : Frg) : List V → Hp → VK → Prop := fun xs H Q => ∃ p ys, xs = [.ref p] ∧ ((SqL K H p ys ∧ ∀ l, H l = none → Q (.ref l) (upd H l (.tup ys))) ∨ (SqT K H p ys ∧ Q (.ref p) H))
theorem small4k {n : Nat} (h : n ≤ 4000) : n < sizeLine := Nat.lt_of_le_of_lt h (by decide)
theorem r_ifTF {b : Bool} {A B : Prop} (h1 : b = true → A) (h2 : b = false → B) : if b = true then A else B := by
  cases b with
  | true => exact h1 rfl
  | false => exact h2 rfl

/-! ### sorted: pairs of a tuple of integers and something, no two with the same integers -/
section
open PyProof.Rows PySem.W PySem.Calls
theorem lexLt_irr : ∀ a : List Int, HT.lexLt a a = false
  | [] => rfl
  | x :: xs => by
    rw [HT.lexLt_cons, if_pos rfl]
    exact lexLt_irr xs
theorem lexLt_asym : ∀ a b : List Int, HT.lexLt a b = true → HT.lexLt b a = false
  | [], [], h => by cases h
  | [], y :: ys, _ => rfl
  | x :: xs, [], h => by cases h
  | x :: xs, y :: ys, h => by
    rw [HT.lexLt_cons] at h ⊢
    by_cases e : x = y
    · rw [if_pos e] at h
      rw [if_pos e.symm]
      exact lexLt_asym xs ys h
    · rw [if_neg e] at h
      rw [if_neg (fun q => e q.symm)]
      have := of_decide_eq_true h
      exact decide_eq_false (by omega)
theorem lexLt_ntr : ∀ a b c : List Int, HT.lexLt b a = false → HT.lexLt c b = false → HT.lexLt c a = false
  | [], _, [], _, _ => rfl
  | [], _, z :: zs, _, _ => rfl
  | x :: xs, [], _, h, _ => by cases h
  | x :: xs, y :: ys, [], _, h => by cases h
  | x :: xs, y :: ys, z :: zs, h1, h2 => by
    rw [HT.lexLt_cons] at h1 h2 ⊢
    by_cases e1 : y = x
    · subst e1
      rw [if_pos rfl] at h1
      by_cases e2 : z = y
      · subst e2
        rw [if_pos rfl] at h2 ⊢
        exact lexLt_ntr xs ys zs h1 h2
      · rw [if_neg e2] at h2 ⊢
        exact h2
    · rw [if_neg e1] at h1
      have h1 := of_decide_eq_false h1
      by_cases e2 : z = y
      · subst e2
        rw [if_neg e1]
        exact decide_eq_false h1
      · rw [if_neg e2] at h2
        have h2 := of_decide_eq_false h2
        rw [if_neg (by omega)]
        exact decide_eq_false (by omega)
theorem lexLt_tri : ∀ a b : List Int, HT.lexLt a b = false → HT.lexLt b a = false → a = b
  | [], [], _, _ => rfl
  | [], y :: ys, h, _ => by cases h
  | x :: xs, [], _, h => by cases h
  | x :: xs, y :: ys, h1, h2 => by
    rw [HT.lexLt_cons] at h1 h2
    by_cases e : x = y
    · subst e
      rw [if_pos rfl] at h1 h2
      rw [lexLt_tri xs ys h1 h2]
    · rw [if_neg e] at h1
      rw [if_neg (fun q => e q.symm)] at h2
      have h1 := of_decide_eq_false h1
      have h2 := of_decide_eq_false h2
      omega
theorem lexLt_tr {a b c : List Int} (h1 : HT.lexLt a b = true) (h2 : HT.lexLt b c = true) : HT.lexLt a c = true := by
  cases h : HT.lexLt a c with
  | true => rfl
  | false =>
    have q := lexLt_ntr c a b h (lexLt_asym _ _ h1)
    rw [q] at h2
    cases h2
theorem swo_key {α : Type} (k : α → List Int) : SrtO.Swo fun v u => HT.lexLt (k v) (k u) := ⟨fun x y h => lexLt_asym _ _ h, fun x y z h1 h2 => lexLt_ntr _ _ _ h1 h2⟩
/-- a tuple of these integers in a heap -/
def IsTI (h : Heap) (q : Addr) (ns : List Int) : Prop := ∃ (o : Obj) (its : List Value) (n : Nat), h.get? q = some o ∧ o.cls = .type "tuple" ∧ o.data = .seq its.toArray n ∧ IntsAre its ns
theorem IsTI.keeps {h h' : Heap} {q : Addr} {ns : List Int} (x : IsTI h q ns) (k : ∀ b o, h.get? b = some o → o.cls = .type "tuple" → h'.get? b = some o) : IsTI h' q ns := by
  obtain ⟨o, its, n, h1, h2, h3, h4⟩ := x
  exact ⟨o, its, n, k _ _ h1 h2, h2, h3, h4⟩
theorem readsAll_ints {h : Heap} : ∀ {its : List Value} {ns : List Int}, IntsAre its ns → ReadsAll h its (ns.map PyData.int) []
  | _, _, .nil => .nil
  | _, _, .cons n t r => .cons (.int n t) (readsAll_ints r)
theorem IsTI.reads {h : Heap} {q : Addr} {ns : List Int} (x : IsTI h q ns) : Reads h (.ref q) (.tuple (ns.map PyData.int)) [] := by
  obtain ⟨o, its, n, h1, h2, h3, h4⟩ := x
  exact .tuple h1 h2 h3 (by simpa using readsAll_ints h4)
theorem lay_ints : ∀ ns : List Int, PyData.canLayAll0 (ns.map PyData.int) = true
  | [] => rfl
  | n :: ns => by
    show (PyData.canLay0 (.int n) && PyData.canLayAll0 (ns.map PyData.int)) = true
    rw [lay_ints ns]
    rfl
theorem lay_kd (ns : List Int) : (PyData.tuple (ns.map PyData.int)).canLay0 = true := lay_ints ns
theorem depth_ints : ∀ ns : List Int, PyData.depthAll (ns.map PyData.int) = 0
  | [] => rfl
  | n :: ns => by
    have e := depth_ints ns
    simp [PyData.depthAll, PyData.depth, e]
theorem depth_kd (ns : List Int) : (PyData.tuple (ns.map PyData.int)).depth ≤ 1 := by
  have e := depth_ints ns
  simp [PyData.depth, e]
theorem eqv_kd (a b : List Int) : PyData.eqv (.tuple (a.map PyData.int)) (.tuple (b.map PyData.int)) = decide (a = b) := PySem.W.ked_eqvAll a b
variable {prog : Program} {w : World} {A : Around} {s : Shared}
theorem ti_eqAt {q q' : Addr} {a b : List Int} (h1 : IsTI s.heap q a) (h2 : IsTI s.heap q' b) (hu : A.units + 1 < cLine) : SeqAt.EqAt A s (.ref q) (.ref q') (decide (a = b)) := by
  have e := SeqAt.eqAt_reads _ _ A s _ _ _ _ h1.reads h2.reads (lay_kd a) (lay_kd b) (by
    have := depth_kd a
    have := Nat.min_le_left (PyData.tuple (a.map PyData.int)).depth (PyData.tuple (b.map PyData.int)).depth
    omega)
  rw [eqv_kd] at e
  exact e
theorem ti_lt {q q' : Addr} {a b : List Int} (h1 : IsTI s.heap q a) (h2 : IsTI s.heap q' b) (hu : A.units < cLine) {E : Value → Shared → Prop} {Q : Bool → Shared → Prop} (h : Q (HT.lexLt a b) s) : wpAny (model prog w) A (oneLt' false (.ref q) (.ref q')) Q E s := by
  obtain ⟨o1, i1, n1, a1, a2, a3, a4⟩ := h1
  obtain ⟨o2, i2, n2, b1, b2, b3, b4⟩ := h2
  refine PySem.W.kat_one _ _ (HT.lt_tupInts (items := i1.toArray) (items2 := i2.toArray) ⟨o1, a1, a2, n1, a3⟩ ⟨o2, b1, b2, n2, b3⟩ (by simpa using a4) (by simpa using b4) hu ?_)
  exact h
/-- such a pair -/
def IsEnt (h : Heap) (v : Value) (ns : List Int) : Prop := ∃ (a q u : Addr) (o : Obj) (n : Nat), v = .ref a ∧ h.get? a = some o ∧ o.cls = .type "tuple" ∧ o.data = .seq #[.ref q, .ref u] n ∧ IsTI h q ns
theorem IsEnt.keeps {h h' : Heap} {v : Value} {ns : List Int} (x : IsEnt h v ns) (k : ∀ b o, h.get? b = some o → o.cls = .type "tuple" → h'.get? b = some o) : IsEnt h' v ns := by
  obtain ⟨a, q, u, o, n, e, h1, h2, h3, h4⟩ := x
  exact ⟨a, q, u, o, n, e, k _ _ h1 h2, h2, h3, h4.keeps k⟩
theorem ents_firsts {h : Heap} {k : Value → List Int} : ∀ {vs : List Value}, (∀ v ∈ vs, IsEnt h v (k v)) → ∃ fs : List Value, PySem.W.KatTups h vs fs ∧ fs.length = vs.length ∧ ∀ f ∈ fs, ∃ q ns, f = Value.ref q ∧ IsTI h q ns
  | [], _ => ⟨[], PySem.W.KatTups.nil, rfl, fun _ hm => by simp at hm⟩
  | v :: vs, hp => by
    obtain ⟨fs, h1, h2, h3⟩ := ents_firsts (vs := vs) fun v' hm => hp v' (List.mem_cons_of_mem _ hm)
    obtain ⟨a, q, u, o, n, e, ho, hc, hd, ht⟩ := hp v (List.mem_cons_self ..)
    subst e
    refine ⟨.ref q :: fs, PySem.W.KatTups.cons ho hc hd rfl h1, by rw [List.length_cons, List.length_cons, h2], fun f hm => ?_⟩
    rcases List.mem_cons.mp hm with rfl | hm
    · exact ⟨q, _, rfl, ht⟩
    · exact h3 f hm
theorem ent_cmp {vs : List Value} {k : Value → List Int} (hu : A.units + 1 < cLine) (hp : ∀ v ∈ vs, IsEnt s.heap v (k v)) (hi : ∀ v ∈ vs, ∀ u ∈ vs, k v = k u → v = u) : SrtO.Cmp prog w A s (tuples' false) (fun p => p.1 ∈ vs) (SrtO.lt2 fun v u => HT.lexLt (k v) (k u)) := by
  intro p q hm hm'
  have h1 := hp _ hm
  have h2 := hp _ hm'
  have hij := hi _ hm _ hm'
  show wpAny (model prog w) A (keyLt' (tuples' false) p.1 q.1) (fun r s' => s' = s ∧ r = HT.lexLt (k p.1) (k q.1)) (fun _ _ => False) s
  generalize k p.1 = x at h1 hij ⊢
  generalize k q.1 = y at h2 hij ⊢
  obtain ⟨a, q1, u, o, n, e, ho, hc, hd, t1⟩ := h1
  obtain ⟨a', q2, u', o', n', e', ho', hc', hd', t2⟩ := h2
  rw [e, e'] at hij ⊢
  refine PySem.W.kat_lt ho hd ho' hd' ?_
  show PySem.W.KatLex prog w A false (decide (2 < 2)) _ [(.ref q1, .ref q2), (.ref u, .ref u')] 0 s
  refine PySem.W.kat_cons (ti_eqAt t1 t2 hu prog w _ _ ?_)
  refine PySem.W.kat_go (fun e1 => ?_) (fun e1 => ?_)
  · have ex : x = y := of_decide_eq_true e1
    have ea := hij ex
    have ea : a = a' := by
      injection ea
    subst ea
    have eo : o = o' := Option.some.inj (ho.symm.trans ho')
    subst eo
    rw [hd] at hd'
    have eu : u = u' := by
      injection hd' with e1 e2
      simp at e1
      exact e1.2
    subst eu
    refine PySem.W.kat_yes (PySem.W.kat_cons (SeqAt.EqAt.same _ prog w _ _ ?_))
    refine PySem.W.kat_go (fun e2 => ?_) (fun e2 => by cases e2)
    refine PySem.W.kat_yes (PySem.W.kat_nil ⟨rfl, ?_⟩)
    rw [ex, lexLt_irr]
    rfl
  · exact PySem.W.kat_no (ti_lt t1 t2 (by omega) ⟨rfl, rfl⟩)
theorem ents_sortable {a : Addr} {vs : List Value} {k : Value → List Int} (hu : A.units + 1 < cLine) (h0 : 0 < vs.length) (hp : ∀ v ∈ vs, IsEnt s.heap v (k v)) (hi : ∀ v ∈ vs, ∀ u ∈ vs, k v = k u → v = u) (ha : ∀ o, s.heap.get? a = some o → o.cls ≠ .type "tuple") : SrtO.SortableO prog w A s a vs fun v u => HT.lexLt (k v) (k u) := by
  intro h' keep
  have kp : ∀ b o, s.heap.get? b = some o → o.cls = .type "tuple" → h'.get? b = some o := fun b o e c => keep b o (fun z => by subst z; exact ha o e c) e
  have hp' : ∀ v ∈ vs, IsEnt h' v (k v) := fun v hm => (hp v hm).keeps kp
  obtain ⟨fs, h1, h2, h3⟩ := ents_firsts hp'
  refine ⟨tuples' false, fun Q E hq => ?_, ent_cmp hu hp' hi⟩
  refine PySem.W.kat_kind (T := .type "tuple") h1 (by omega) (fun f hm => ?_) (by rfl) ?_
  · obtain ⟨q, ns, rfl, o, its, n, g1, g2, g3, g4⟩ := h3 f hm
    have e : PySem.W.Looks (model prog w) h' (typeOf (.ref q)) o.cls := (PySem.W.Looks.ld g1).andThen .now
    rw [g2] at e
    exact e
  · have e : (Value.type "tuple" != Value.type "tuple") = false := by first | decide +kernel | rfl | decide
    rw [e]
    exact hq
theorem sorted_ents {l : Addr} {vs : List Value} {k : Value → List Int} {E : Value → Shared → Prop} {Q : Value → Shared → Prop} (hu : A.units + 10 < cLine) (hl : s.heap.IsList l vs.toArray) (hz : vs.length ≤ sizeLine) (hp : ∀ v ∈ vs, IsEnt s.heap v (k v)) (hi : ∀ v ∈ vs, ∀ u ∈ vs, k v = k u → v = u)
    (h : ∀ (h' : Heap) (d : Addr) (out : List Value), SrtO.Srtd (fun v u => HT.lexLt (k v) (k u)) out → SrtO.Stb (fun v u => HT.lexLt (k v) (k u)) out vs → (∀ b o, s.heap.get? b = some o → h'.get? b = some o) → s.heap.objs.size ≤ d → (∃ n, h'.get? d = some (seqObj "list" out.toArray n)) → Q (.ref d) { s with heap := h' }) :
    wpAny (model prog w) A (call (.builtin "sorted") [.ref l]) Q E s := by
  refine SrtO.sorted_ord (swo_key k) hl hz (fun h2 h₁ a ha kk => ?_) fun out hs hb => ?_
  · refine ents_sortable (s := { s with heap := h₁ }) (by
      show A.units + 1 + 1 + 1 < cLine
      omega) (by omega) (fun v hm => (hp v hm).keeps fun b o e _ => (kk b o e).2) hi fun o e => ?_
    have e' : some o = some (seqObj "list" vs.toArray 0) := e.symm.trans ha
    cases e'
    intro c
    exact absurd (Value.type.inj c) (by decide)
  · exact h _ _ out hs hb (fun b o e => sortedAll_old e) (Nat.le_succ _) (sortedAll_at s.heap vs out.toArray)
/-! ### sorted: tuples of integers of any lengths -/
theorem one_lt_ti {q q' : Addr} {a b : List Int} {x : Bool} (h1 : IsTI s.heap q a) (h2 : IsTI s.heap q' b) (hu : A.units + 1 < cLine) {E : Value → Shared → Prop} {Q : Bool → Shared → Prop} (h : Q (HT.lexLt a b) s) : wpAny (model prog w) A (oneLt' x (.ref q) (.ref q')) Q E s := by
  cases x with
  | false => exact ti_lt h1 h2 (by omega) h
  | true =>
    obtain ⟨⟨cls, dd, data, sl⟩, i1, n1, a1, a2, a3, a4⟩ := h1
    obtain ⟨⟨cls2, dd2, data2, sl2⟩, i2, n2, b1, b2, b3, b4⟩ := h2
    simp only at a2 a3 b2 b3
    subst a2 a3 b2 b3
    rw [oneLt'_eq]
    simp only [if_true]
    refine wpAny_bind (wpAny_cRoomFor (by omega) ?_)
    refine wpAny_bind (wpAny_callSpecialIfBound?_slot (name := Str.ofString "__lt__") ⟨_, a1, rfl⟩ PySem.F.slot_tuple_lt (call_meets PySem.F.slot_tuple_lt ⟨_, a1, rfl⟩ PySem.F.entry_tuple_lt (PySem.F.args_tuple_lt_2 _ _) (HT.tuple_lt_ints q q' i1.toArray i2.toArray n1 n2 dd dd2 sl sl2 a b (by simpa using a4) (by simpa using b4)) ⟨a1, b1, ?_⟩))
    exact wpAny_truthy_bool h
theorem ti_lex {fin : Bool} {Q : Bool → Shared → Prop} : ∀ {vs us : List Value} {a b : List Int}, IntsAre vs a → IntsAre us b → (i : Nat) → (hf : a.length + us.length = a.length + us.length) → (∀ r, (∀ c d : List Int, c.length = a.length → d.length = b.length → True) → (r = HT.lexLt a b ∨ (r = fin ∧ (a.length ≤ b.length ∨ b.length ≤ a.length) ∧ HT.lexLt a b = decide (a.length < b.length) ∧ a.take b.length = b.take a.length)) → Q r s) →
    PySem.W.KatLex prog w A true fin Q (vs.zip us) i s
  | _, _, [], b, .nil, hb, i, _, h => by
    show Q fin s
    refine h fin (fun _ _ _ _ => trivial) (.inr ⟨rfl, .inl (Nat.zero_le _), ?_, by simp⟩)
    cases b with
    | nil => rfl
    | cons y ys => rfl
  | _, _, x :: a, [], .cons _ _ ra, .nil, i, _, h => by
    show Q fin s
    exact h fin (fun _ _ _ _ => trivial) (.inr ⟨rfl, .inr (Nat.zero_le _), rfl, by simp⟩)
  | _, _, x :: a, y :: b, .cons _ t ra, .cons _ u rb, i, _, h => by
    show PySem.W.KatLex prog w A true fin Q ((.int x t, .int y u) :: _) i s
    refine PySem.W.kat_cons (SeqAt.EqAt.int_int x t y u prog w _ _ ?_)
    refine PySem.W.kat_go (fun e1 => ?_) (fun e1 => ?_)
    · have ex : x = y := by simpa using e1
      subst ex
      refine PySem.W.kat_yes (ti_lex ra rb (i + 1) rfl fun r _ hr => h r (fun _ _ _ _ => trivial) ?_)
      rw [HT.lexLt_cons, if_pos rfl]
      rcases hr with hr | ⟨hr, h1, h2, h3⟩
      · exact .inl hr
      · refine .inr ⟨hr, ?_, ?_, ?_⟩
        · rw [List.length_cons, List.length_cons]
          omega
        · rw [h2, List.length_cons, List.length_cons]
          exact decide_eq_decide.mpr (by omega)
        · rw [List.length_cons, List.length_cons, List.take_succ_cons, List.take_succ_cons, h3]
    · have ex : ¬ x = y := by simpa using e1
      refine PySem.W.kat_no ?_
      have e3 : HT.lexLt (x :: a) (y :: b) = decide (x < y) := by rw [HT.lexLt_cons, if_neg ex]
      have hq : Q (decide (x < y)) s := h _ (fun _ _ _ _ => trivial) (.inl e3.symm)
      cases hb : (true && i == 0) with
      | true => exact oneLt_int hq
      | false => exact PySem.W.kat_one _ _ (PyProof.Rows.lt_int hq)
theorem ti_tuples {q q' : Addr} {a b : List Int} (h1 : IsTI s.heap q a) (h2 : IsTI s.heap q' b) {E : Value → Shared → Prop} {Q : Bool → Shared → Prop} (h : Q (HT.lexLt a b) s) : wpAny (model prog w) A (keyLt' (tuples' true) (.ref q) (.ref q')) Q E s := by
  obtain ⟨o1, i1, n1, a1, a2, a3, a4⟩ := h1
  obtain ⟨o2, i2, n2, b1, b2, b3, b4⟩ := h2
  refine PySem.W.kat_lt a1 a3 b1 b3 ?_
  have la := a4.length
  have lb := b4.length
  show PySem.W.KatLex prog w A true (decide (i1.toArray.size < i2.toArray.size)) Q (i1.zip i2) 0 s
  refine ti_lex a4 b4 0 rfl fun r _ hr => ?_
  rcases hr with hr | ⟨hr, _, h3, _⟩
  · rw [hr]
    exact h
  · rw [hr]
    have e : decide (i1.toArray.size < i2.toArray.size) = HT.lexLt a b := by
      rw [h3, List.size_toArray, List.size_toArray, la, lb]
    rw [e]
    exact h
def TiV (h : Heap) (v : Value) (ns : List Int) : Prop := ∃ q, v = .ref q ∧ IsTI h q ns
theorem ti_firsts {h : Heap} {k : Value → List Int} : ∀ {vs : List Value}, (∀ v ∈ vs, TiV h v (k v)) → (∀ v ∈ vs, k v ≠ []) → ∃ fs : List Value, PySem.W.KatTups h vs fs ∧ fs.length = vs.length ∧ ∀ f ∈ fs, ∃ x t, f = Value.int x t
  | [], _, _ => ⟨[], PySem.W.KatTups.nil, rfl, fun _ hm => by simp at hm⟩
  | v :: vs, hp, hn => by
    obtain ⟨fs, h1, h2, h3⟩ := ti_firsts (vs := vs) (fun v' hm => hp v' (List.mem_cons_of_mem _ hm)) (fun v' hm => hn v' (List.mem_cons_of_mem _ hm))
    obtain ⟨q, e, o, its, n, ho, hc, hd, ht⟩ := hp v (List.mem_cons_self ..)
    have hne := hn v (List.mem_cons_self ..)
    subst e
    revert hne ht
    generalize k (.ref q) = ns
    intro ht hne
    cases ht with
    | nil => exact absurd rfl hne
    | @cons x t vs' ns' r =>
      refine ⟨.int x t :: fs, PySem.W.KatTups.cons ho hc hd rfl h1, by rw [List.length_cons, List.length_cons, h2], fun f hm => ?_⟩
      rcases List.mem_cons.mp hm with rfl | hm
      · exact ⟨x, t, rfl⟩
      · exact h3 f hm
theorem ti_first {v : Value} {ns : List Int} (h : TiV s.heap v ns) {E : Value → Shared → Prop} {Q : Option Value → Shared → Prop} (q : ∀ r : Option Value, (r.isSome = true ↔ ns ≠ []) → Q r s) : wpAny (model prog w) A (firstOfTuple' v) Q E s := by
  obtain ⟨a, rfl, o, its, n, ho, hc, hd, ht⟩ := h
  rw [PySem.W.kas_first_eq]
  refine wpAny_bind (PySem.W.Looks.here (show PySem.W.Looks (model prog w) s.heap (typeOf (.ref a)) o.cls from (PySem.W.Looks.ld ho).andThen .now) ?_)
  rw [hc, if_neg (by first | decide | simp)]
  refine wpAny_bind (listItems_at ho hd (wpAny_pure ?_))
  refine q _ ?_
  cases ht with
  | nil => simp
  | cons x t r => simp
theorem ti_firstsM {k : Value → List Int} {E : Value → Shared → Prop} : ∀ {vs : List Value} {Q : List (Option Value) → Shared → Prop}, (∀ v ∈ vs, TiV s.heap v (k v)) → (∀ rs : List (Option Value), rs.length = vs.length → (∀ (i : Nat) (v : Value) (r : Option Value), vs[i]? = some v → rs[i]? = some r → (r.isSome = true ↔ k v ≠ [])) → Q rs s) → wpAny (model prog w) A (vs.mapM firstOfTuple') Q E s
  | [], Q, _, h => by
    rw [List.mapM_nil]
    exact wpAny_pure (h [] rfl fun i v r e => by simp at e)
  | v :: vs, Q, hp, h => by
    rw [List.mapM_cons]
    refine wpAny_bind (ti_first (hp v (List.mem_cons_self ..)) fun r hr => ?_)
    refine wpAny_bind (ti_firstsM (vs := vs) (fun v' hm => hp v' (List.mem_cons_of_mem _ hm)) fun rs hl hrs => wpAny_pure (h (r :: rs) (by rw [List.length_cons, List.length_cons, hl]) fun i v' r' e1 e2 => ?_))
    cases i with
    | zero =>
      cases (show some v = some v' from e1)
      cases (show some r = some r' from e2)
      exact hr
    | succ i => exact hrs i v' r' (by simpa using e1) (by simpa using e2)
theorem ti_types {E : Value → Shared → Prop} {k : Value → List Int} {vs : List Value} {Q : Option Value → Shared → Prop} (h0 : 0 < vs.length) (hp : ∀ v ∈ vs, TiV s.heap v (k v)) (h : Q (some (.type "tuple")) s) : wpAny (model prog w) A (oneTypeOnly' vs.toArray) Q E s := by
  obtain ⟨v1, vr, rfl⟩ : ∃ v1 vr, vs = v1 :: vr := by
    match vs, h0 with
    | v1 :: vr, _ => exact ⟨v1, vr, rfl⟩
  rw [oneTypeOnly'_eq, List.mapM_toArray, map_eq_pure_bind]
  refine wpAny_bind (wpAny_bind (PySem.W.kas_mapM (r := .type "tuple") _ (fun v hv Q' hq => ?_) (wpAny_pure ?_)))
  · obtain ⟨a, rfl, o, its, n, ho, hc, hd, ht⟩ := hp v hv
    have e : PySem.W.Looks (model prog w) s.heap (typeOf (.ref a)) o.cls := (PySem.W.Looks.ld ho).andThen .now
    rw [hc] at e
    exact e.here hq
  · have hall2 : ((List.map (fun _ => Value.type "tuple") (v1 :: vr)).toArray.all fun x => x == Value.type "tuple") = true := by
      simp only [List.all_toArray, List.all_map, List.all_eq_true]
      intro _ _
      rfl
    have h1 : (List.map (fun _ => Value.type "tuple") (v1 :: vr)).toArray[0]? = some (Value.type "tuple") := by simp
    rw [h1]
    simp only [hall2, if_true]
    exact wpAny_pure h
theorem ti_kind {k : Value → List Int} {vs : List Value} (h0 : 0 < vs.length) (hp : ∀ v ∈ vs, TiV s.heap v (k v)) : ∃ κ, (κ = tuples' true ∨ κ = general' ∨ κ = oneType') ∧ ∀ (Q : SortKind → Shared → Prop) (E : Value → Shared → Prop), Q κ s → wpAny (model prog w) A (keyKind' vs.toArray) Q E s := by
  by_cases hn : ∀ v ∈ vs, k v ≠ []
  · obtain ⟨fs, h1, h2, h3⟩ := ti_firsts hp hn
    refine ⟨tuples' true, .inl rfl, fun Q E hq => ?_⟩
    refine PySem.W.kat_kind (T := .type "int") h1 (by omega) (fun f hm => ?_) (by rfl) ?_
    · obtain ⟨x, t, rfl⟩ := h3 f hm
      exact PySem.W.Looks.now
    · have e : (Value.type "int" != Value.type "tuple") = true := by first | decide +kernel | rfl | decide
      rw [e]
      exact hq
  · obtain ⟨v, hv, hve⟩ : ∃ v ∈ vs, k v = [] := by
      refine Classical.byContradiction fun q => hn fun v hv e => q ⟨v, hv, e⟩
    obtain ⟨i, hi, hiv⟩ := List.getElem_of_mem hv
    have hiv : vs[i]? = some v := by rw [List.getElem?_eq_getElem hi, hiv]
    have no : ∀ rs : List (Option Value), rs.length = vs.length → (∀ (i : Nat) (v : Value) (r : Option Value), vs[i]? = some v → rs[i]? = some r → (r.isSome = true ↔ k v ≠ [])) → (rs.toArray.all fun x => x.isSome) = false := fun rs hl hrs => by
      cases hh : (rs.toArray.all fun x => x.isSome) with
      | false => rfl
      | true =>
        rw [List.all_toArray, List.all_eq_true] at hh
        have hir : i < rs.length := by omega
        have h1 := hrs i v rs[i] hiv (List.getElem?_eq_getElem hir)
        exact absurd hve (h1.mp (hh _ (List.getElem_mem hir)))
    by_cases hf : ∀ v0, vs[0]? = some v0 → k v0 ≠ []
    · refine ⟨general', .inr (.inl rfl), fun Q E hq => ?_⟩
      rw [kat_kind_eq, List.mapM_toArray, map_eq_pure_bind]
      refine wpAny_bind (wpAny_bind (ti_firstsM hp fun rs hl hrs => wpAny_pure ?_))
      rw [if_neg (by rw [no rs hl hrs]; decide)]
      have h00 : 0 < rs.length := by omega
      have e0 : (rs.toArray[0]?.bind id).isSome = true := by
        have hv0 : vs[0]? = some vs[0] := List.getElem?_eq_getElem h0
        have := (hrs 0 _ rs[0] hv0 (List.getElem?_eq_getElem h00)).mpr (hf _ hv0)
        simp [h00, this]
      rw [if_pos e0]
      exact wpAny_pure hq
    · obtain ⟨v0, hv0, hk0⟩ : ∃ v0, vs[0]? = some v0 ∧ k v0 = [] := by
        refine Classical.byContradiction fun q => hf fun v hv e => q ⟨v, hv, e⟩
      refine ⟨oneType', .inr (.inr rfl), fun Q E hq => ?_⟩
      rw [kat_kind_eq, List.mapM_toArray, map_eq_pure_bind]
      refine wpAny_bind (wpAny_bind (ti_firstsM hp fun rs hl hrs => wpAny_pure ?_))
      rw [if_neg (by rw [no rs hl hrs]; decide)]
      have h00 : 0 < rs.length := by omega
      have e0 : ¬ (rs.toArray[0]?.bind id).isSome = true := by
        have h1 := hrs 0 _ rs[0] hv0 (List.getElem?_eq_getElem h00)
        have h2 : ¬ rs[0].isSome = true := fun z => absurd hk0 (h1.mp z)
        simp [h00]
        simpa using h2
      rw [if_neg e0]
      refine wpAny_bind (ti_types h0 hp ?_)
      exact wpAny_pure hq
theorem ti_cmp {vs : List Value} {k : Value → List Int} {κ : SortKind} (hκ : κ = tuples' true ∨ κ = general' ∨ κ = oneType') (hu : A.units + 1 < cLine) (hp : ∀ v ∈ vs, TiV s.heap v (k v)) : SrtO.Cmp prog w A s κ (fun p => p.1 ∈ vs) (SrtO.lt2 fun v u => HT.lexLt (k v) (k u)) := by
  intro p q hm hm'
  obtain ⟨a, e1, h1⟩ := hp _ hm
  obtain ⟨b, e2, h2⟩ := hp _ hm'
  show wpAny (model prog w) A (keyLt' κ p.1 q.1) (fun r s' => s' = s ∧ r = HT.lexLt (k p.1) (k q.1)) (fun _ _ => False) s
  generalize k p.1 = x at h1 ⊢
  generalize k q.1 = y at h2 ⊢
  rw [e1, e2]
  rcases hκ with e | e | e
  · subst e
    exact ti_tuples h1 h2 ⟨rfl, rfl⟩
  · subst e
    exact one_lt_ti (x := false) h1 h2 hu ⟨rfl, rfl⟩
  · subst e
    exact one_lt_ti (x := true) h1 h2 hu ⟨rfl, rfl⟩
theorem IsTI.of_keeps {h h' : Heap} {v : Value} {ns : List Int} (x : TiV h v ns) (k : ∀ b o, h.get? b = some o → o.cls = .type "tuple" → h'.get? b = some o) : TiV h' v ns := by
  obtain ⟨q, e, t⟩ := x
  exact ⟨q, e, t.keeps k⟩
theorem tis_sortable {a : Addr} {vs : List Value} {k : Value → List Int} (hu : A.units + 1 < cLine) (h0 : 0 < vs.length) (hp : ∀ v ∈ vs, TiV s.heap v (k v)) (ha : ∀ o, s.heap.get? a = some o → o.cls ≠ .type "tuple") : SrtO.SortableO prog w A s a vs fun v u => HT.lexLt (k v) (k u) := by
  intro h' keep
  have kp : ∀ b o, s.heap.get? b = some o → o.cls = .type "tuple" → h'.get? b = some o := fun b o e c => keep b o (fun z => by subst z; exact ha o e c) e
  have hp' : ∀ v ∈ vs, TiV h' v (k v) := fun v hm => IsTI.of_keeps (hp v hm) kp
  obtain ⟨κ, hκ, hk⟩ := ti_kind (prog := prog) (w := w) (A := A) (s := { s with heap := h' }) h0 hp'
  exact ⟨κ, hk, ti_cmp hκ hu hp'⟩
/-- the keys of a dict, one by one -/
theorem rawSrc {d : Addr} {es : Array DictEntry} {ep : Nat} (lo : (d == sysModules) = false) : KdlSrc prog w "dict" d d es.size (fun i v => ∃ en, es[i]? = some en ∧ v = en.key) (fun h => DT.Raw h d es ep) where
  type := fun _ hm => hm.typeIs
  there := fun _ hm => ⟨hm.lt, hm.lt⟩
  keep := fun _ _ hm hk => hm.at' fun o e => hk d (.inl rfl) o e
  notList := by decide
  notTuple := by decide
  hint := fun _ _ _ _ hm hq => kdl_hint_dict hm.typeIs hq
  iter := fun A s hh hm => by
    obtain ⟨o, ho, hc, hdat⟩ := id hm
    refine ⟨_, fun i h => h.IsKeyIter s.heap.objs.size d i es.size ep ∧ DT.Raw h d es ep, fun _ _ hq => L2.iter_keys lo ho hc hdat hq, ?_, ⟨⟨_, Heap.get?_push_size _ rfl, rfl, rfl⟩, hm.push _⟩⟩
    have hne : d ≠ s.heap.objs.size := Nat.ne_of_lt hm.lt
    refine ⟨fun b hb => by simp at hb; simp [hb], fun i h h' st hk => ⟨st.1.at fun o e => hk _ (by simp) o e, st.2.at' fun o e => hk d (by simp) o e⟩, fun i s Q E hi st hQ => ?_, fun s Q E st hQ => ?_, fun i s Q E st hQ => wpAny_pyIter_keyiter st.1 hQ⟩
    · obtain ⟨od, hod, hoc, hdd⟩ := id st.2
      refine L2.next_key_item st.1 hod hdd rfl (Array.getElem?_eq_getElem hi) fun h' hit' hs' => ?_
      exact hQ _ h' s.toks ⟨_, Array.getElem?_eq_getElem hi, rfl⟩ ⟨hit', st.2.at' fun o e => hs'.extBut d o hne e⟩ fun b o hb e => hs'.extBut b o (fun h => hb (by simp [h])) e
    · obtain ⟨od, hod, hoc, hdd⟩ := id st.2
      exact L2.next_key_end hh st.1 hod hdd rfl (Nat.le_refl _) fun h' he' => hQ h' s.toks fun b o hb e => he' b o (fun h => hb (by simp [h])) e
end
/-! ### .. as rules of the layer -/
section
open PyProof.Rows PySem.W PySem.Calls
theorem ints_uniq : ∀ {vs : List Value} {a b : List Int}, IntsAre vs a → IntsAre vs b → a = b
  | _, _, _, .nil, .nil => rfl
  | _, _, _, .cons n t r, .cons _ _ r2 => by rw [ints_uniq r r2]
theorem IsTI.uniq {h : Heap} {q : Addr} {a b : List Int} (x : IsTI h q a) (y : IsTI h q b) : a = b := by
  obtain ⟨o, i, n, h1, h2, h3, h4⟩ := x
  obtain ⟨o', i', n', g1, g2, g3, g4⟩ := y
  rw [h1] at g1
  cases g1
  rw [h3] at g3
  have e : i = i' := by
    injection g3 with e1 e2
    simpa using e1
  subst e
  exact ints_uniq h4 g4
theorem IsEnt.uniq {h : Heap} {v : Value} {a b : List Int} (x : IsEnt h v a) (y : IsEnt h v b) : a = b := by
  obtain ⟨t, q, u, o, n, e, h1, h2, h3, h4⟩ := x
  obtain ⟨t', q', u', o', n', e', g1, g2, g3, g4⟩ := y
  rw [e] at e'
  cases e'
  rw [h1] at g1
  cases g1
  rw [h3] at g3
  have e : q = q' := by
    injection g3 with e1 e2
    simp at e1
    exact e1.1
  subst e
  exact h4.uniq g4
open Classical in
noncomputable def entK (h : Heap) (v : Value) : List Int := if hx : ∃ ns, IsEnt h v ns then Classical.choose hx else []
theorem entK_is {h : Heap} {v : Value} {ns : List Int} (x : IsEnt h v ns) : entK h v = ns := by
  have hx : ∃ ns, IsEnt h v ns := ⟨ns, x⟩
  unfold entK
  rw [dif_pos hx]
  exact (Classical.choose_spec hx).uniq x
open Classical in
noncomputable def tiK (h : Heap) (v : Value) : List Int := if hx : ∃ ns, TiV h v ns then Classical.choose hx else []
theorem TiV.uniq {h : Heap} {v : Value} {a b : List Int} (x : TiV h v a) (y : TiV h v b) : a = b := by
  obtain ⟨q, e, t⟩ := x
  obtain ⟨q', e', t'⟩ := y
  rw [e] at e'
  cases e'
  exact t.uniq t'
theorem tiK_is {h : Heap} {v : Value} {ns : List Int} (x : TiV h v ns) : tiK h v = ns := by
  have hx : ∃ ns, TiV h v ns := ⟨ns, x⟩
  unfold tiK
  rw [dif_pos hx]
  exact (Classical.choose_spec hx).uniq x
structure Ent where
  t : Addr
  q : Addr
  u : Addr
  k : List Int
def EntAt (H : Hp) (e : Ent) : Prop := H e.t = some (.tup [.ref e.q, .ref e.u]) ∧ H e.q = some (.tup (e.k.map V.int))
variable {X : Cx}
theorem ti_of {pins : List (Addr × Obj)} {σ : L2.St} {H : Hp} {s : Shared} (I : L2.Inv X pins σ H s) {q : Addr} {ns : List Int} (h : H q = some (.tup (ns.map V.int))) : IsTI s.heap q ns := by
  obtain ⟨_, its, rv, o, ho, hc, n, hd⟩ := I.hok _ _ h
  exact ⟨o, its, n, ho, hc, hd, rv.ints⟩
theorem ent_of {pins : List (Addr × Obj)} {σ : L2.St} {H : Hp} {s : Shared} (I : L2.Inv X pins σ H s) {e : Ent} (h : EntAt H e) : IsEnt s.heap (.ref e.t) e.k := by
  obtain ⟨h1, h2⟩ := h
  obtain ⟨_, its, rv, o, ho, hc, n, hd⟩ := I.hok _ _ h1
  obtain ⟨u1, u2, rfl, r1, r2⟩ := vals2 rv
  cases r1
  cases r2
  exact ⟨e.t, e.q, e.u, o, n, rfl, ho, hc, hd, ti_of I h2⟩
theorem vals_refs {α : Type} (f : α → Addr) : ∀ {l : List α} {us : List Value}, Vals (l.map fun z => V.ref (f z)) us → us = l.map fun z => Value.ref (f z)
  | [], us, h => by cases h; rfl
  | z :: l, us, h => by
    cases h with
    | cons r t =>
      cases r
      rw [vals_refs f t]
      rfl
theorem vals_refsB {α : Type} (f : α → Addr) : ∀ (l : List α), Vals (l.map fun z => V.ref (f z)) (l.map fun z => Value.ref (f z))
  | [] => .nil
  | z :: l => .cons rfl (vals_refsB f l)
theorem perm_up {α β : Type} (f : α → β) : ∀ {out : List β} {l : List α}, out.Perm (l.map f) → ∃ zs : List α, zs.Perm l ∧ zs.map f = out := by
  intro out l h
  generalize hm : l.map f = m at h
  induction h generalizing l with
  | nil =>
    cases l with
    | nil => exact ⟨[], .refl _, rfl⟩
    | cons x l => cases hm
  | @cons b out m p ih =>
    cases l with
    | nil => cases hm
    | cons x l =>
      injection hm with e1 e2
      obtain ⟨zs, pz, ez⟩ := ih e2
      exact ⟨x :: zs, pz.cons x, by rw [List.map_cons, e1, ez]⟩
  | swap b c m =>
    cases l with
    | nil => cases hm
    | cons x l =>
      cases l with
      | nil => cases hm
      | cons y l =>
        injection hm with e1 e2
        injection e2 with e2 e3
        exact ⟨y :: x :: l, .swap _ _ _, by rw [List.map_cons, List.map_cons, e1, e2, e3]⟩
  | trans p1 p2 ih1 ih2 =>
    obtain ⟨z2, q2, e2⟩ := ih2 hm
    obtain ⟨z1, q1, e1⟩ := ih1 e2
    exact ⟨z1, q1.trans q2, e1⟩
/-- sorted(xs), xs a list of pairs of a tuple of integers and an object, no two with the same integers -/
def rSortedE (K : PySem.W.Frag) : List V → Hp → VK → Prop := fun vs H Q => ∃ (a : Addr) (es : List Ent), vs = [V.ref a] ∧ SqL K H a (es.map fun e => V.ref e.t) ∧ (∀ e ∈ es, EntAt H e) ∧ (es.map (·.k)).Nodup ∧
  ∀ (es' : List Ent) (p : Addr), es'.Perm es → (es'.map (·.k)).Pairwise (fun x y => HT.lexLt x y = true) → H p = none → Q (.ref p) (upd H p (.lst (es'.map fun e => V.ref e.t)))
theorem strict_of {l : List (List Int)} (h1 : l.Pairwise (fun x y => HT.lexLt y x = false)) (h2 : l.Nodup) : l.Pairwise (fun x y => HT.lexLt x y = true) := by
  refine (List.Pairwise.and h1 h2).imp fun {x y} ⟨a, b⟩ => ?_
  cases h : HT.lexLt x y with
  | true => rfl
  | false => exact absurd (lexLt_tri _ _ h a) b
theorem cr_sortedE (hu : X.A.units + 64 < cLine) : CallR X (.builtin "sorted") (rSortedE X.K) := by
  intro pins s σ H vs us Q I r h
  obtain ⟨a, es, rfl, hs, he, hn, q⟩ := h
  obtain ⟨its, rv, hl, hz⟩ := I.list hs
  obtain ⟨u, rfl, ru⟩ := vals1 r
  obtain rfl : u = Value.ref a := ru
  have ei := vals_refs (fun e : Ent => e.t) rv
  have at_ : ∀ v ∈ its, ∃ e ∈ es, v = .ref e.t ∧ entK s.heap v = e.k ∧ IsEnt s.heap v e.k := fun v hv => by
    rw [ei] at hv
    obtain ⟨e, hm, rfl⟩ := List.mem_map.mp hv
    have x := ent_of I (he e hm)
    exact ⟨e, hm, rfl, entK_is x, x⟩
  have inj : ∀ e ∈ es, ∀ f ∈ es, e.k = f.k → e = f := fun e h1 f h2 hk => by
    obtain ⟨i, hi, ei⟩ := List.getElem_of_mem h1
    obtain ⟨j, hj, ej⟩ := List.getElem_of_mem h2
    have := List.pairwise_iff_getElem.mp hn
    rcases Nat.lt_trichotomy i j with c | c | c
    · have q := this i j (by rw [List.length_map]; exact hi) (by rw [List.length_map]; exact hj) c
      rw [List.getElem_map, List.getElem_map, ei, ej] at q
      exact absurd hk q
    · subst c
      exact ei.symm.trans ej
    · have q := this j i (by rw [List.length_map]; exact hj) (by rw [List.length_map]; exact hi) c
      rw [List.getElem_map, List.getElem_map, ei, ej] at q
      exact absurd hk.symm q
  refine sorted_ents (k := entK s.heap) (by omega) hl.isList (by rw [← rv.length]; exact hz) (fun v hv => ?_) (fun v hv u hu' hk => ?_) fun h' d out h1 h2 kp hd hn' => ?_
  · obtain ⟨e, _, _, e2, x⟩ := at_ v hv
    rw [e2]
    exact x
  · obtain ⟨e, m1, e1, e2, _⟩ := at_ v hv
    obtain ⟨f, m2, f1, f2, _⟩ := at_ u hu'
    rw [e2, f2] at hk
    rw [e1, f1, inj e m1 f m2 hk]
  · have pe := h2.perm
    rw [ei] at pe
    obtain ⟨zs, pz, ez⟩ := perm_up (fun e : Ent => Value.ref e.t) pe
    obtain ⟨n, hn'⟩ := hn'
    have srt : (zs.map (·.k)).Pairwise (fun x y => HT.lexLt y x = false) := by
      have h1' := h1
      rw [← ez] at h1'
      have h1'' := List.pairwise_map.mp h1'
      rw [List.pairwise_map]
      refine List.Pairwise.imp_of_mem (fun {x y} hx hy hxy => ?_) h1''
      have ex := entK_is (ent_of I (he x (pz.mem_iff.mp hx)))
      have ey := entK_is (ent_of I (he y (pz.mem_iff.mp hy)))
      have hxy : HT.lexLt (entK s.heap (.ref y.t)) (entK s.heap (.ref x.t)) = false := hxy
      rw [ex, ey] at hxy
      exact hxy
    have nd : (zs.map (·.k)).Nodup := (pz.map (·.k)).nodup_iff.mpr hn
    refine ⟨.ref d, upd H d (.lst (zs.map fun e => V.ref e.t)), I.laid (t' := s.toks) kp hd ⟨?_, out, n, ?_, hn'⟩, rfl, q zs d pz (strict_of srt nd) (I.hok.fresh hd)⟩
    · rw [List.length_map, pz.length_eq]
      rw [List.length_map] at hz
      exact hz
    · rw [← ez]
      exact vals_refsB (fun e : Ent => e.t) zs
/-- sorted(d), d a dict whose keys are tuples of integers: the keys themselves, in order -/
def rSortedTD : List V → Hp → VK → Prop := fun vs H Q => ∃ (a : Addr) (kvs : List (List L2.Key × V)) (ks : List (List Int)), vs = [.ref a] ∧ H a = some (.dT kvs) ∧ kvs.map (·.1) = ks.map (·.map Sum.inl) ∧
  ∀ (p : Addr) (qs : List (Addr × List Int)), (qs.map (·.2)).Perm ks → (qs.map (·.2)).Pairwise (fun x y => HT.lexLt x y = true) → (∀ z ∈ qs, H z.1 = some (.tup (z.2.map V.int))) → H p = none → Q (.ref p) (upd H p (.lst (qs.map fun z => V.ref z.1)))
theorem kv_ints (ns : List Int) : (ns.map (Sum.inl : Int → L2.Key)).map kV = ns.map V.int := by
  rw [List.map_map]
  rfl
theorem cr_sortedTD (hcalm : X.calm = true) (hu : X.A.units + 64 < cLine) : CallR X (.builtin "sorted") rSortedTD := by
  intro pins s σ H xs us Q I r h
  obtain ⟨a, kvs, ks, rfl, ha, hks, q⟩ := h
  obtain ⟨u, eu, rx⟩ := vals1 r
  subst eu
  cases rx
  obtain ⟨z, lo, xs', rel, o, es, ep, ho, hx, hdat, hes, hn⟩ := (show ObjOk X.prog X.w H s.heap a (.dT kvs) from I.hok a _ ha)
  have l1 : kvs.length = xs'.length := Paired.length rel
  have l2 : es.size = xs'.length := by
    have e := congrArg List.length hes
    rw [Array.length_toList, List.length_map] at e
    exact e
  have l3 : kvs.length = ks.length := by
    have e := congrArg List.length hks
    rw [List.length_map, List.length_map] at e
    exact e
  have hr : DT.Raw s.heap a es ep := ⟨o, ho, hx, hdat⟩
  have at_ : ∀ (j : Nat) (e : Addr × List Int), ((xs'.map (·.2.1)).zip ks)[j]? = some e → H e.1 = some (.tup (e.2.map V.int)) := by
    intro j e hj
    obtain ⟨h1, h2⟩ := List.getElem?_zip_eq_some.mp hj
    rw [List.getElem?_map] at h1
    obtain ⟨x, hx1, hx2⟩ := Option.map_eq_some_iff.mp h1
    have hjl : j < kvs.length := by
      have := (List.getElem?_eq_some_iff.mp hx1).1
      omega
    obtain ⟨b, hb, r1, r2, r3⟩ := L2.paired_get rel (List.getElem?_eq_getElem hjl)
    rw [hx1] at hb
    cases hb
    have hk : (kvs.map (·.1))[j]? = some kvs[j].1 := by rw [List.getElem?_map, List.getElem?_eq_getElem hjl]; rfl
    rw [hks, List.getElem?_map, h2] at hk
    have hk : e.2.map Sum.inl = kvs[j].1 := Option.some.inj hk
    rw [← hx2, r2, ← hk, kv_ints]
  refine Calls.call_function_entry PyProof.Rows.kind_sorted PyProof.Rows.plain_sorted PyProof.Rows.entry_sorted (PyProof.Rows.args_sorted1 _) ?_
  unfold Builtin.«sorted»
  refine wpAny_bind (m := checkCount "sorted" 1 1 _) (wpAny_pure ?_)
  refine wpAny_bind (PySem.W.kdu_collect (A := X.A.in1) (rawSrc (es := es) (ep := ep) lo) (I.ok.hd hcalm) hr (by rw [l2, ← l1]; exact z) fun h' tk acc hk hacc => ?_)
  have hal : acc.toList.length = es.size := by rw [Array.length_toList, hacc.1]
  have hae : acc.toList = ((xs'.map (·.2.1)).zip ks).map fun e => Value.ref e.1 := by
    refine List.ext_getElem? fun j => ?_
    by_cases hj : j < acc.toList.length
    · have hj2 : j < xs'.length := by omega
      obtain ⟨en, he, hv⟩ := hacc.2 j acc.toList[j] (by rw [← Array.getElem?_toList]; exact List.getElem?_eq_getElem hj)
      rw [← Array.getElem?_toList, hes, List.getElem?_map, List.getElem?_eq_getElem hj2] at he
      have he : entryOfKey (tupleKind (mixKind X.prog X.w)) xs'[j] = en := Option.some.inj he
      rw [List.getElem?_eq_getElem hj, hv, ← he, List.getElem?_map]
      have hz : ((xs'.map (·.2.1)).zip ks)[j]? = some (xs'[j].2.1, ks[j]'(by omega)) := by
        rw [List.getElem?_zip_eq_some]
        exact ⟨by rw [List.getElem?_map, List.getElem?_eq_getElem hj2]; rfl, List.getElem?_eq_getElem (by omega)⟩
      rw [hz]
      rfl
    · rw [List.getElem?_eq_none (by omega), List.getElem?_eq_none]
      rw [List.length_map, List.length_zip, List.length_map]
      omega
  have I1 : L2.Inv X pins σ H { s with heap := h', toks := tk } := I.kept hk
  refine wpAny_bind (wpAny_newList ?_ (by rw [hal, l2, ← l1]; exact z))
  have hoL : (h'.push (seqObj "list" acc.toList.toArray 0)).get? h'.objs.size = some (seqObj "list" acc.toList.toArray 0) := Heap.get?_push_size _ rfl
  have hkeep : ∀ b o, h'.get? b = some o → b ≠ h'.objs.size ∧ (h'.push (seqObj "list" acc.toList.toArray 0)).get? b = some o := fun b o e => ⟨Nat.ne_of_lt (Heap.lt_size e), Heap.get?_push_of_some _ e⟩
  show wpAny _ _ _ _ _ { s with heap := h'.push (seqObj "list" acc.toList.toArray 0), toks := tk }
  have tis : ∀ v ∈ acc.toList, TiV s.heap v (tiK s.heap v) := fun v hv => by
    rw [hae] at hv
    obtain ⟨e, hm, rfl⟩ := List.mem_map.mp hv
    obtain ⟨j, hj⟩ := List.mem_iff_getElem?.mp hm
    have x : TiV s.heap (.ref e.1) e.2 := ⟨e.1, rfl, ti_of I (at_ j e hj)⟩
    rw [tiK_is x]
    exact x
  refine wpAny_bind (wpAny_holding (wpAny_call_entry PyProof.Rows.slot_list_sort ⟨_, hoL, rfl⟩ PyProof.Rows.entry_list_sort
    (SrtO.list_sort_ord (s := { s with heap := h'.push (seqObj "list" acc.toList.toArray 0), toks := tk }) (swo_key (tiK s.heap)) hoL (by rw [hal, l2, ← l1]; exact z) (fun h2 => ?_) fun out hs hb => ⟨_, rfl, ?_⟩) (PyProof.Rows.args_list_sort _)))
  · refine tis_sortable (by
      show X.A.units + 1 + 1 + 1 < cLine
      omega) (by omega) (fun v hv => IsTI.of_keeps (tis v hv) fun b o e _ => (hkeep b o (hk b o e)).2) fun o e => ?_
    have e' : some o = some (seqObj "list" acc.toList.toArray 0) := e.symm.trans hoL
    cases e'
    intro c
    exact absurd (Value.type.inj c) (by decide)
  · have pe := hb.perm
    rw [hae] at pe
    obtain ⟨zs, pz, ez⟩ := perm_up (fun e : Addr × List Int => Value.ref e.1) pe
    obtain ⟨e', he'⟩ := PyProof.Rows.sortedHeap_at (vs := acc.toList) (out := out.toArray) hoL
    have hzk : ∀ e ∈ zs, H e.1 = some (.tup (e.2.map V.int)) := fun e hm => by
      obtain ⟨j, hj⟩ := List.mem_iff_getElem?.mp (pz.mem_iff.mp hm)
      exact at_ j e hj
    have hks2 : ((xs'.map (·.2.1)).zip ks).map (·.2) = ks := List.map_snd_zip (by rw [List.length_map]; omega)
    have pks : (zs.map (·.2)).Perm ks := by
      have q := pz.map (·.2)
      rw [hks2] at q
      exact q
    have nd : ks.Nodup := by
      have e1 : xs'.map (·.1) = ks.map (·.map Sum.inl) := by
        rw [← hks]
        clear hn hes l1 l2 l3 at_ hae hal hacc tis pe pz hks2 hks ha z
        induction rel with
        | nil => rfl
        | cons r t ih =>
          rw [List.map_cons, List.map_cons, ih, r.1]
      rw [e1] at hn
      exact List.Pairwise.of_map _ (fun a b h e => h (congrArg _ e)) hn
    have srt : (zs.map (·.2)).Pairwise (fun x y => HT.lexLt y x = false) := by
      have h1' := hs
      rw [← ez] at h1'
      have h1'' := List.pairwise_map.mp h1'
      rw [List.pairwise_map]
      refine List.Pairwise.imp_of_mem (fun {x y} hx hy hxy => ?_) h1''
      have ex := tiK_is (h := s.heap) (v := .ref x.1) ⟨x.1, rfl, ti_of I (hzk x hx)⟩
      have ey := tiK_is (h := s.heap) (v := .ref y.1) ⟨y.1, rfl, ti_of I (hzk y hy)⟩
      have hxy : HT.lexLt (tiK s.heap (.ref y.1)) (tiK s.heap (.ref x.1)) = false := hxy
      rw [ex, ey] at hxy
      exact hxy
    have hn0 : H h'.objs.size = none := I1.hok.fresh (Nat.le_refl _)
    refine wpAny_pure ⟨_, rfl, .ref h'.objs.size, upd H h'.objs.size (.lst (zs.map fun z => V.ref z.1)), I1.laid (t' := tk) (fun b u e => ?_) (Nat.le_refl _) ⟨?_, out, e', ?_, he'⟩, rfl, q h'.objs.size zs pks (strict_of srt (pks.nodup_iff.mpr nd)) hzk hn0⟩
    · exact (PyProof.Rows.sortedHeap_old (hkeep b u e).1 (Heap.lt_size (hkeep b u e).2)).trans (hkeep b u e).2
    · have e1 := pz.length_eq
      rw [List.length_map, e1, List.length_zip, List.length_map]
      omega
    · rw [← ez]
      exact vals_refsB (fun e : Addr × List Int => e.1) zs
end

local macro_rules | `(tactic| walk_at "rd1") => `(tactic| first
  | (with_reducible refine r_sl ?_)
  | (with_reducible refine r_part ?_)
  | (with_reducible refine r_some ?_)
  | (with_reducible refine r_nopart ?_)
  | (with_reducible refine r_rng2 ?_)
  | (with_reducible refine r_rng3 ?_)
  | (with_reducible refine r_itL ?_)
  | (with_reducible refine r_itT ?_)
  | (with_reducible refine r_lcT ?_)
  | (with_reducible refine r_lcL ?_)
  | (with_reducible refine r_lc0 ?_))
local macro_rules | `(tactic| walk_at "ri1") => `(tactic| first
  | (with_reducible refine r_sl ?_)
  | (with_reducible refine r_part ?_)
  | (with_reducible refine r_some ?_)
  | (with_reducible refine r_nopart ?_)
  | (with_reducible refine r_rng2 ?_)
  | (with_reducible refine r_rng3 ?_)
  | (with_reducible refine r_itL ?_)
  | (with_reducible refine r_itT ?_)
  | (with_reducible refine r_lcT ?_)
  | (with_reducible refine r_lcL ?_)
  | (with_reducible refine r_lc0 ?_))

local macro_rules | `(tactic| walk_at "rd1") => `(tactic| first
  | (with_reducible refine r_callS ?_)
  | (with_reducible refine r_methS ?_)
  | (with_reducible refine r_raz ?_)
  | (with_reducible refine r_ost ?_)
  | (with_reducible refine r_xf ?_))
local macro_rules | `(tactic| walk_at "ri1") => `(tactic| first
  | (with_reducible refine r_callS ?_)
  | (with_reducible refine r_methS ?_)
  | (with_reducible refine r_raz ?_)
  | (with_reducible refine r_ost ?_)
  | (with_reducible refine r_xf ?_))
local macro_rules | `(tactic| walk_at "rh1") => `(tactic| first
  | (with_reducible refine r_callS ?_)
  | (with_reducible refine r_methS ?_)
  | (with_reducible refine r_raz ?_)
  | (with_reducible refine r_ost ?_)
  | (with_reducible refine r_xf ?_))

/-! ### nested values, and where they stand -/
theorem hu65 {A : Around} {k : Nat} (hr : Room k A) : A.units + 65 < cLine := by
  have := hr.un
  omega
theorem ps_never {X : Cx} {st : Stmt} : PS X st (fun _ _ _ => False) := ⟨fun _ _ _ _ _ _ h => h.elim⟩
inductive Vl where
  | lf (k : Str) (r : List PyData)
  | ls (xs : List Vl)
  | mp (es : List (List Int × Vl))
def kd (k : List Int) : PyData := .tuple (k.map PyData.int)
mutual
def Vl.dat : Vl → PyData
  | .lf k r => .tuple (.str k :: r)
  | .ls xs => .tuple [.str "list", .tuple (datL xs)]
  | .mp es => .tuple [.str "map", .tuple (datM es)]
def datL : List Vl → List PyData
  | [] => []
  | x :: xs => x.dat :: datL xs
def datM : List (List Int × Vl) → List PyData
  | [] => []
  | (k, v) :: es => .tuple [kd k, v.dat] :: datM es
end
/-- leaves -/
inductive Lf : Str → List PyData → Prop
  | null : Lf "null" []
  | truth (b : Bool) : Lf "truth" [.bool b]
  | number (m e : Int) : Lf "number" [.int m, .int e]
  | bytes (os : List Int) (h : os.length ≤ 300) : Lf "bytes" [kd os]
  | text (ps : List Int) (h : ps.length ≤ 200) : Lf "text" [kd ps]
mutual
def Vl.ok : Nat → Vl → Prop
  | _, .lf k r => Lf k r
  | 0, .ls _ => False
  | n + 1, .ls xs => xs.length ≤ 49 ∧ vokL n xs
  | 0, .mp _ => False
  | n + 1, .mp es => es.length ≤ 49 ∧ (es.map (·.1)).Pairwise (fun x y => HT.lexLt x y = true) ∧ (∀ e ∈ es, e.1.length ≤ 200) ∧ vokM n es
def vokL : Nat → List Vl → Prop
  | _, [] => True
  | n, x :: xs => x.ok n ∧ vokL n xs
def vokM : Nat → List (List Int × Vl) → Prop
  | _, [] => True
  | n, (_, v) :: es => v.ok n ∧ vokM n es
end
theorem vokL_app : ∀ {n : Nat} {xs ys : List Vl}, vokL n xs → vokL n ys → vokL n (xs ++ ys)
  | _, [], _, _, h => h
  | _, x :: xs, _, h1, h2 => ⟨h1.1, vokL_app h1.2 h2⟩
theorem vokL_mem : ∀ {n : Nat} {xs : List Vl}, vokL n xs → ∀ x ∈ xs, x.ok n
  | _, [], _, x, h => absurd h (by simp)
  | _, y :: ys, h, x, hx => by
    rcases List.mem_cons.mp hx with e | e
    · rw [e]
      exact h.1
    · exact vokL_mem h.2 x e
theorem vokM_mem : ∀ {n : Nat} {es : List (List Int × Vl)}, vokM n es → ∀ e ∈ es, e.2.ok n
  | _, [], _, x, h => absurd h (by simp)
  | _, (k, v) :: ys, h, x, hx => by
    rcases List.mem_cons.mp hx with e | e
    · rw [e]
      exact h.1
    · exact vokM_mem h.2 x e
theorem vokM_of : ∀ {n : Nat} {es : List (List Int × Vl)}, (∀ e ∈ es, e.2.ok n) → vokM n es
  | _, [], _ => trivial
  | _, (k, v) :: ys, h => ⟨h _ (List.mem_cons_self ..), vokM_of fun e he => h e (List.mem_cons_of_mem _ he)⟩
theorem datL_app : ∀ (xs ys : List Vl), datL (xs ++ ys) = datL xs ++ datL ys
  | [], _ => rfl
  | x :: xs, ys => congrArg (x.dat :: ·) (datL_app xs ys)
theorem datM_map : ∀ (es : List (List Int × Vl)), datM es = es.map fun e => .tuple [kd e.1, e.2.dat]
  | [] => rfl
  | (k, v) :: es => congrArg (PyData.tuple [kd k, v.dat] :: ·) (datM_map es)
theorem datL_map : ∀ (xs : List Vl), datL xs = xs.map Vl.dat
  | [] => rfl
  | x :: xs => congrArg (x.dat :: ·) (datL_map xs)
mutual
inductive Tp (H : Hp) : V → PyData → Prop
  | non : Tp H .non .none
  | bl (b : Bool) : Tp H (.bl b) (.bool b)
  | int (i : Int) : Tp H (.int i) (.int i)
  | str (x : Str) : Tp H (.str x) (.str x)
  | tup {a : Addr} {xs : List V} {ds : List PyData} : H a = some (.tup xs) → TpAll H xs ds → Tp H (.ref a) (.tuple ds)
inductive TpAll (H : Hp) : List V → List PyData → Prop
  | nil : TpAll H [] []
  | cons {v : V} {vs : List V} {d : PyData} {ds : List PyData} : Tp H v d → TpAll H vs ds → TpAll H (v :: vs) (d :: ds)
end
/-- tuples stay -/
def Tk (H H' : Hp) : Prop := ∀ a xs, H a = some (.tup xs) → H' a = some (.tup xs)
theorem Tk.refl (H : Hp) : Tk H H := fun _ _ h => h
theorem Tk.trans {H H1 H2 : Hp} (a : Tk H H1) (b : Tk H1 H2) : Tk H H2 := fun c xs h => b c xs (a c xs h)
theorem Same.tk {H H' : Hp} (s : Same H H') : Tk H H' := fun a xs h => s a _ h
theorem tk_put {H : Hp} {a : Addr} {xs : List V} {o : HO} (h : H a = some (.lst xs)) : Tk H (upd H a o) := fun b ys hb => by
  rw [upd_ne (fun e => by rw [e, h] at hb; cases hb)]
  exact hb
theorem tk_but {H H' : Hp} {a : Addr} {xs : List V} (h : H a = some (.lst xs)) (k : ∀ b o, b ≠ a → H b = some o → H' b = some o) : Tk H H' := fun b ys hb => k b _ (fun e => by rw [e, h] at hb; cases hb) hb
theorem keep_tk {K : Frg} {S : SC} {H H' : Hp} (L : LS K S H) (k : Keep S H H') : Tk H H' := by
  obtain ⟨k1, l, f, e⟩ := L.st
  exact tk_but e fun b o n h => k b o n h
mutual
theorem Tp.tk {H H' : Hp} (k : Tk H H') : ∀ (d : PyData) (v : V), Tp H v d → Tp H' v d
  | .none, _, h => by cases h; exact .non
  | .bool b, _, h => by cases h; exact .bl b
  | .int i, _, h => by cases h; exact .int i
  | .str x, _, h => by cases h; exact .str x
  | .tuple ds, _, h => by
    cases h with
    | tup h1 h2 => exact .tup (k _ _ h1) (TpAll.tk k ds _ h2)
  | .list ds, _, h => by cases h
  | .dict ds, _, h => by cases h
theorem TpAll.tk {H H' : Hp} (k : Tk H H') : ∀ (ds : List PyData) (vs : List V), TpAll H vs ds → TpAll H' vs ds
  | [], _, h => by cases h; exact .nil
  | d :: ds, _, h => by
    cases h with
    | cons h1 h2 => exact .cons (Tp.tk k d _ h1) (TpAll.tk k ds _ h2)
end
mutual
theorem Tp.dp {K : Frg} {H : Hp} : ∀ (d : PyData) (v : V), Tp H v d → Dp K H v d
  | .none, _, h => by cases h; exact .non
  | .bool b, _, h => by cases h; exact .bl b
  | .int i, _, h => by cases h; exact .int i
  | .str x, _, h => by cases h; exact .str x
  | .tuple ds, _, h => by
    cases h with
    | tup h1 h2 => exact .tup (SqT.of h1) (TpAll.dp ds _ h2)
  | .list ds, _, h => by cases h
  | .dict ds, _, h => by cases h
theorem TpAll.dp {K : Frg} {H : Hp} : ∀ (ds : List PyData) (vs : List V), TpAll H vs ds → DpAll K H vs ds
  | [], _, h => by cases h; exact .nil
  | d :: ds, _, h => by
    cases h with
    | cons h1 h2 => exact .cons (Tp.dp d _ h1) (TpAll.dp ds _ h2)
end
theorem tp_tup {H : Hp} {v : V} {ds : List PyData} (h : Tp H v (.tuple ds)) : ∃ a xs, v = .ref a ∧ H a = some (.tup xs) ∧ TpAll H xs ds := by
  cases h with
  | tup h1 h2 => exact ⟨_, _, rfl, h1, h2⟩
theorem tp_ints {H : Hp} : ∀ (ns : List Int), TpAll H (ns.map V.int) (ns.map PyData.int)
  | [] => .nil
  | n :: ns => .cons (.int n) (tp_ints ns)
theorem tp_intsB {H : Hp} : ∀ {xs : List V} (ns : List Int), TpAll H xs (ns.map PyData.int) → xs = ns.map V.int
  | _, [], h => by
    cases h
    rfl
  | _, n :: ns, h => by
    cases h with
    | cons h t =>
      cases h
      rw [tp_intsB ns t]
      rfl
theorem tp_kd {H : Hp} {a : Addr} {ns : List Int} (h : H a = some (.tup (ns.map V.int))) : Tp H (.ref a) (kd ns) := .tup h (tp_ints ns)
theorem tp_kdB {H : Hp} {v : V} {ns : List Int} (h : Tp H v (kd ns)) : ∃ a, v = .ref a ∧ H a = some (.tup (ns.map V.int)) := by
  obtain ⟨a, xs, rfl, h1, h2⟩ := tp_tup h
  rw [tp_intsB ns h2] at h1
  exact ⟨a, rfl, h1⟩
theorem tpAll_app {H : Hp} : ∀ {xs ys : List V} {ds es : List PyData}, TpAll H xs ds → TpAll H ys es → TpAll H (xs ++ ys) (ds ++ es)
  | _, _, _, _, .nil, h => h
  | _, _, _, _, .cons h1 h2, h => .cons h1 (tpAll_app h2 h)
theorem tpAll_len {H : Hp} : ∀ {xs : List V} {ds : List PyData}, TpAll H xs ds → xs.length = ds.length
  | _, _, .nil => rfl
  | _, _, .cons _ h => congrArg (· + 1) (tpAll_len h)
theorem tpAll_get {H : Hp} : ∀ {xs : List V} {ds : List PyData} {i : Nat} {x : V}, TpAll H xs ds → xs[i]? = some x → ∃ d, ds[i]? = some d ∧ Tp H x d
  | [], _, _, _, _, e => by simp at e
  | x :: xs, _, 0, _, .cons h t, e => by
    cases (show some x = some _ from e)
    exact ⟨_, rfl, h⟩
  | x :: xs, _, i + 1, _, .cons h t, e => by
    obtain ⟨d, e1, h1⟩ := tpAll_get (i := i) t (by simpa using e)
    exact ⟨d, by simpa using e1, h1⟩
theorem lay_kds : ∀ (ks : List (List Int)), PyData.canLayAll0 (ks.map kd) = true
  | [] => rfl
  | k :: ks => by
    show (PyData.canLay0 (kd k) && PyData.canLayAll0 (ks.map kd)) = true
    rw [lay_kds ks, show PyData.canLay0 (kd k) = true from lay_kd k]
    rfl
theorem depth_kd1 (k : List Int) : (kd k).depth ≤ 1 := depth_kd k
theorem depth_kds : ∀ (ks : List (List Int)), PyData.depthAll (ks.map kd) ≤ 1
  | [] => by simp [PyData.depthAll]
  | k :: ks => by
    have e := depth_kds ks
    have e2 := depth_kd k
    show max (PyData.depth (kd k)) (PyData.depthAll (ks.map kd)) ≤ 1
    exact Nat.max_le.mpr ⟨e2, e⟩
theorem shaped_kd (k : List Int) : SeqAt.shaped (kd k) = true := by
  unfold SeqAt.shaped
  rw [show PyData.canLay0 (kd k) = true from lay_kd k, decide_eq_true (Nat.le_trans (depth_kd1 k) (by decide))]
  rfl
theorem shaped_kds (ks : List (List Int)) : SeqAt.shaped (.list (ks.map kd)) = true := by
  unfold SeqAt.shaped
  rw [show PyData.canLay0 (.list (ks.map kd)) = true from lay_kds ks, decide_eq_true]
  · rfl
  · have e := depth_kds ks
    show PyData.depthAll (ks.map kd) + 1 ≤ 64
    omega
theorem eqv_kds (k : List Int) : ∀ (ks : List (List Int)), ((ks.map kd).any fun z => PyData.eqv z (kd k)) = decide (k ∈ ks)
  | [] => rfl
  | x :: ks => by
    show (PyData.eqv (kd x) (kd k) || ((ks.map kd).any fun z => PyData.eqv z (kd k))) = _
    rw [eqv_kds k ks, show PyData.eqv (kd x) (kd k) = decide (x = k) from eqv_kd x k]
    by_cases e : x = k
    · rw [e]
      simp
    · rw [decide_eq_false e]
      have : decide (k ∈ x :: ks) = decide (k ∈ ks) := decide_eq_decide.mpr ⟨fun q => by
        rcases List.mem_cons.mp q with q | q
        · exact absurd q.symm e
        · exact q, fun q => List.mem_cons_of_mem _ q⟩
      rw [this]
      rfl

/-! ### events of a value -/
inductive Ev where
  | op (m : Bool)
  | ky (k : List Int)
  | lf (k : Str) (r : List PyData)
  | cl
def kindOf_ (m : Bool) : Str := if m then "map" else "list"
def Ev.dat : Ev → PyData
  | .op m => .tuple [.str "open", .str (kindOf_ m)]
  | .ky k => .tuple [.str "key", kd k]
  | .lf k r => .tuple [.str "leaf", .tuple (.str k :: r)]
  | .cl => .tuple [.str "close"]
mutual
def Vl.evs : Vl → List Ev
  | .lf k r => [.lf k r]
  | .ls xs => .op false :: (evsL xs ++ [.cl])
  | .mp es => .op true :: (evsM es ++ [.cl])
def evsL : List Vl → List Ev
  | [] => []
  | x :: xs => x.evs ++ evsL xs
def evsM : List (List Int × Vl) → List Ev
  | [] => []
  | (k, v) :: es => .ky k :: (v.evs ++ evsM es)
end
theorem evsL_app : ∀ (xs ys : List Vl), evsL (xs ++ ys) = evsL xs ++ evsL ys
  | [], _ => rfl
  | x :: xs, ys => by
    show x.evs ++ evsL (xs ++ ys) = x.evs ++ evsL xs ++ evsL ys
    rw [evsL_app xs ys, List.append_assoc]
theorem evsM_app : ∀ (xs ys : List (List Int × Vl)), evsM (xs ++ ys) = evsM xs ++ evsM ys
  | [], _ => rfl
  | (k, v) :: xs, ys => by
    show Ev.ky k :: (v.evs ++ evsM (xs ++ ys)) = Ev.ky k :: (v.evs ++ evsM xs) ++ evsM ys
    rw [evsM_app xs ys, List.cons_append, List.append_assoc]
theorem evsL_one (x : Vl) : evsL [x] = x.evs := by
  show x.evs ++ [] = x.evs
  rw [List.append_nil]
theorem evsM_one (k : List Int) (x : Vl) : evsM [(k, x)] = .ky k :: x.evs := by
  show Ev.ky k :: (x.evs ++ []) = _
  rw [List.append_nil]
theorem evsL_sub {xs : List Vl} {i : Nat} {x : Vl} (h : xs[i]? = some x) : (evsL (xs.take i)).length + x.evs.length ≤ (evsL xs).length := by
  have e : xs = xs.take i ++ (x :: xs.drop (i + 1)) := by
    obtain ⟨hi, e⟩ := List.getElem?_eq_some_iff.mp h
    rw [← e, List.getElem_cons_drop, List.take_append_drop]
  have q := congrArg (fun l => (evsL l).length) e
  have q : (evsL xs).length = (evsL (xs.take i ++ (x :: xs.drop (i + 1)))).length := q
  rw [evsL_app, List.length_append] at q
  have q2 : (evsL (x :: xs.drop (i + 1))).length = x.evs.length + (evsL (xs.drop (i + 1))).length := List.length_append
  omega
theorem evsM_sub {xs : List (List Int × Vl)} {i : Nat} {k : List Int} {x : Vl} (h : xs[i]? = some (k, x)) : (evsM (xs.take i)).length + 1 + x.evs.length ≤ (evsM xs).length := by
  have e : xs = xs.take i ++ ((k, x) :: xs.drop (i + 1)) := by
    obtain ⟨hi, e⟩ := List.getElem?_eq_some_iff.mp h
    rw [← e, List.getElem_cons_drop, List.take_append_drop]
  have q := congrArg (fun l => (evsM l).length) e
  have q : (evsM xs).length = (evsM (xs.take i ++ ((k, x) :: xs.drop (i + 1)))).length := q
  rw [evsM_app, List.length_append] at q
  have q2 : (evsM ((k, x) :: xs.drop (i + 1))).length = x.evs.length + (evsM (xs.drop (i + 1))).length + 1 := congrArg (· + 1) List.length_append
  omega
def evD (es : List Ev) : List PyData := es.map Ev.dat
theorem evD_app (a b : List Ev) : evD (a ++ b) = evD a ++ evD b := List.map_append

theorem lf_kind {k : Str} {r : List PyData} (h : Lf k r) : k ≠ "list" ∧ k ≠ "map" := by
  cases h <;> exact ⟨by decide +kernel, by decide +kernel⟩
/-- all but the list at p stays -/
def Bt (p : Addr) (H H' : Hp) : Prop := ∀ b o, b ≠ p → H b = some o → H' b = some o
theorem Bt.trans {p : Addr} {H H1 H2 : Hp} (x : Bt p H H1) (y : Bt p H1 H2) : Bt p H H2 := fun b o n h => y b o n (x b o n h)
theorem Bt.of {p : Addr} {H H' : Hp} (s : Same H H') : Bt p H H' := fun b o _ h => s b o h
theorem Bt.put {p : Addr} {H : Hp} (o : HO) : Bt p H (upd H p o) := fun b u n h => (upd_ne n).trans h
theorem Bt.tk {p : Addr} {H H' : Hp} {xs : List V} (h : H p = some (.lst xs)) (k : Bt p H H') : Tk H H' := tk_but h k
theorem small16M {n : Nat} (h : n ≤ 16000100) : n < sizeLine := Nat.lt_of_le_of_lt h (by decide)
theorem cps_ne {a b : Str} (h : ¬ a = b) : decide (a = b) = false := decide_eq_false h
/-- what stands at a list, at a map -/
theorem tp_ls {H : Hp} {v : V} {xs : List Vl} (h : Tp H v (Vl.ls xs).dat) : ∃ a b ws, v = .ref a ∧ H a = some (.tup [.str "list", .ref b]) ∧ H b = some (.tup ws) ∧ TpAll H ws (datL xs) := by
  obtain ⟨a, vs, rfl, h1, h2⟩ := tp_tup (show Tp H v (.tuple [.str "list", .tuple (datL xs)]) from h)
  cases h2 with
  | cons x1 x2 =>
    cases x1
    cases x2 with
    | cons y1 y2 =>
      cases y2
      obtain ⟨b, ws, rfl, g1, g2⟩ := tp_tup y1
      exact ⟨a, b, ws, rfl, h1, g1, g2⟩
theorem tp_mp {H : Hp} {v : V} {es : List (List Int × Vl)} (h : Tp H v (Vl.mp es).dat) : ∃ a b ws, v = .ref a ∧ H a = some (.tup [.str "map", .ref b]) ∧ H b = some (.tup ws) ∧ TpAll H ws (datM es) := by
  obtain ⟨a, vs, rfl, h1, h2⟩ := tp_tup (show Tp H v (.tuple [.str "map", .tuple (datM es)]) from h)
  cases h2 with
  | cons x1 x2 =>
    cases x1
    cases x2 with
    | cons y1 y2 =>
      cases y2
      obtain ⟨b, ws, rfl, g1, g2⟩ := tp_tup y1
      exact ⟨a, b, ws, rfl, h1, g1, g2⟩
theorem tp_en {H : Hp} {v : V} {k : List Int} {d : PyData} (h : Tp H v (.tuple [kd k, d])) : ∃ t q u, v = .ref t ∧ H t = some (.tup [.ref q, u]) ∧ H q = some (.tup (k.map V.int)) ∧ Tp H u d := by
  obtain ⟨a, vs, rfl, h1, h2⟩ := tp_tup h
  cases h2 with
  | cons x1 x2 =>
    cases x2 with
    | cons y1 y2 =>
      cases y2
      obtain ⟨q, rfl, hq⟩ := tp_kdB x1
      exact ⟨a, q, _, rfl, h1, hq, y1⟩
theorem tp_lf {H : Hp} {v : V} {k : Str} {r : List PyData} (h : Tp H v (Vl.lf k r).dat) : ∃ a ws, v = .ref a ∧ H a = some (.tup (.str k :: ws)) ∧ TpAll H ws r := by
  obtain ⟨a, vs, rfl, h1, h2⟩ := tp_tup (show Tp H v (.tuple (.str k :: r)) from h)
  cases h2 with
  | cons x1 x2 =>
    cases x1
    exact ⟨a, _, rfl, h1, x2⟩
theorem datL_get {xs : List Vl} {i : Nat} {d : PyData} (h : (datL xs)[i]? = some d) : ∃ x, xs[i]? = some x ∧ d = x.dat := by
  rw [datL_map, List.getElem?_map] at h
  obtain ⟨x, h1, h2⟩ := Option.map_eq_some_iff.mp h
  exact ⟨x, h1, h2.symm⟩
theorem datM_get {xs : List (List Int × Vl)} {i : Nat} {d : PyData} (h : (datM xs)[i]? = some d) : ∃ k x, xs[i]? = some (k, x) ∧ d = .tuple [kd k, x.dat] := by
  rw [datM_map, List.getElem?_map] at h
  obtain ⟨x, h1, h2⟩ := Option.map_eq_some_iff.mp h
  exact ⟨x.1, x.2, h1, h2.symm⟩
theorem take_one {α : Type} {l : List α} {i : Nat} {x : α} (h : l[i]? = some x) : l.take (i + 1) = l.take i ++ [x] := by
  rw [List.take_succ, h]
  rfl
theorem str_list : ¬ ("map" : Str) = "list" := by decide +kernel
theorem evsL_len {xs : List Vl} : (Vl.ls xs).evs.length = (evsL xs).length + 2 := by
  show (evsL xs ++ [Ev.cl]).length + 1 = _
  rw [List.length_append]
  rfl
theorem evsM_len {xs : List (List Int × Vl)} : (Vl.mp xs).evs.length = (evsM xs).length + 2 := by
  show (evsM xs ++ [Ev.cl]).length + 1 = _
  rw [List.length_append]
  rfl
theorem tp_ev2 {H : Hp} {T : Addr} {k : Str} {v : V} {d : PyData} (h : H T = some (.tup [.str k, v])) (hv : Tp H v d) : Tp H (.ref T) (.tuple [.str k, d]) := .tup h (.cons (.str _) (.cons hv .nil))
theorem tp_cl {H : Hp} {T : Addr} (h : H T = some (.tup [.str "close"])) : Tp H (.ref T) Ev.cl.dat := .tup h (.cons (.str _) .nil)
theorem evD_len (es : List Ev) : (evD es).length = es.length := List.length_map _

theorem r_din {σ : St} {H : Hp} {Q : VK} {td ty : TE} (h : ty σ H fun y H1 => td σ H1 fun x H2 => ∃ a o, x = .ref a ∧ DGet H2 a y o ∧ Q (.bl o.isSome) H2) : tDIn ty td σ H Q := h
theorem r_dput {σ : St} {H : Hp} {n b c : St → Hp → Prop} {r : VK} {td ty tv : TE} (h : tv σ H fun v H1 => td σ H1 fun x H2 => ty σ H2 fun y H3 => ∃ a H4, x = .ref a ∧ DPut H3 a y v H4 ∧ n σ H4) : sDPut td ty tv ⟨n, r, b, c⟩ σ H := h

/-! ### heaps, step by step: what one change leaves, what many leave -/
/-- a alone is changed, and it was no tuple -/
def Eb (a : Addr) (H H' : Hp) : Prop := (∀ b, b ≠ a → H' b = H b) ∧ ∀ xs, H a ≠ some (.tup xs)
/-- all but o stays, tuples stay wherever they are -/
def Ch (o : List Addr) (H H' : Hp) : Prop := ∀ x u, H x = some u → (x ∈ o → ∃ xs, u = .tup xs) → H' x = some u
section
variable {o o2 : List Addr} {H H1 H2 H' : Hp} {a x : Addr} {u : HO} {xs : List V}
theorem Eb.get (e : Eb a H H') (n : x ≠ a) (h : H x = some u) : H' x = some u := (e.1 x n).trans h
theorem Eb.upd {o : HO} (h : H a = some u) (n : ∀ xs, u ≠ .tup xs) : Eb a H (upd H a o) := ⟨fun b hb => upd_ne hb, fun xs e => by rw [h] at e; exact n xs (Option.some.inj e)⟩
theorem Ch.get (c : Ch o H H') (n : x ∉ o) (h : H x = some u) : H' x = some u := c x u h fun z => absurd z n
theorem Ch.tup (c : Ch o H H') (h : H x = some (.tup xs)) : H' x = some (.tup xs) := c x _ h fun _ => ⟨xs, rfl⟩
theorem Ch.tk (c : Ch o H H') : Tk H H' := fun _ _ h => c.tup h
theorem Eb.tk (e : Eb a H H') : Tk H H' := fun b xs h => (e.1 b fun q => by rw [q] at h; exact e.2 xs h).trans h
theorem Ch.refl : Ch o H H := fun _ _ h _ => h
theorem Ch.same (s : Same H1 H2) (c : Ch o H H1) : Ch o H H2 := fun x u h n => s _ _ (c x u h n)
theorem Ch.eb (e : Eb a H1 H2) (m : a ∈ o) (c : Ch o H H1) : Ch o H H2 := fun x u h n => by
  have h1 := c x u h n
  by_cases q : x = a
  · subst q
    obtain ⟨xs, rfl⟩ := n m
    exact absurd h1 (e.2 xs)
  · exact e.get q h1
theorem Ch.ebn (e : Eb a H1 H2) (m : H a = none) (c : Ch o H H1) : Ch o H H2 := fun x u h n => e.get (fun q => by rw [q, m] at h; cases h) (c x u h n)
theorem Ch.ch (c2 : Ch o2 H1 H2) (m : ∀ x ∈ o2, x ∈ o ∨ H x = none) (c : Ch o H H1) : Ch o H H2 := fun x u h n => c2 x u (c x u h n) fun z => by
  rcases m x z with q | q
  · exact n q
  · rw [h] at q
    cases q
theorem Ch.mono (c : Ch o H H') (m : ∀ x ∈ o, x ∈ o2) : Ch o2 H H' := fun x u h n => c x u h fun z => n (m x z)
theorem Ch.trans (c : Ch o H H1) (c2 : Ch o H1 H2) : Ch o H H2 := c2.ch (fun x hx => .inl hx) c
theorem Ch.seq {K : Frg} (c : Ch o H H') (n : x ∉ o) (h : SqL K H x xs) : SqL K H' x xs := by
  rcases h with (h | ⟨u, h⟩) | h
  · exact .inl (.inl (c.get n h))
  · exact .inl (.inr ⟨u, c.get n h⟩)
  · exact .inr h
theorem Same.get (s : Same H H') (h : H x = some u) : H' x = some u := s _ _ h
theorem nm_nil : x ∉ ([] : List Addr) := by simp
theorem nm_cons (h : x ≠ a) (t : x ∉ o) : x ∉ a :: o := by simp [h, t]
theorem nm_app (h : x ∉ o) (t : x ∉ o2) : x ∉ o ++ o2 := by simp [h, t]
theorem ms_nil {p : Addr → Prop} : ∀ x ∈ ([] : List Addr), p x := by simp
theorem ms_cons {p : Addr → Prop} (h : p a) (t : ∀ x ∈ o, p x) : ∀ x ∈ a :: o, p x := fun x hx => by
  rcases List.mem_cons.mp hx with e | e
  · rw [e]; exact h
  · exact t x e
theorem ms_app {p : Addr → Prop} (h : ∀ x ∈ o, p x) (t : ∀ x ∈ o2, p x) : ∀ x ∈ o ++ o2, p x := fun x hx => by
  rcases List.mem_append.mp hx with e | e
  · exact h x e
  · exact t x e
theorem ne_il {C dx : Addr} {fs : List (Str × V)} {b : Addr} (h1 : H a = some (.ins C dx fs)) (h2 : H b = some (.lst xs)) : a ≠ b := fun e => by
  rw [e, h2] at h1
  cases h1
theorem ne_id {C dx : Addr} {fs : List (Str × V)} {b : Addr} {kvs : List (List Key × V)} (h1 : H a = some (.ins C dx fs)) (h2 : H b = some (.dT kvs)) : a ≠ b := fun e => by
  rw [e, h2] at h1
  cases h1
theorem ne_ld {b : Addr} {kvs : List (List Key × V)} (h1 : H a = some (.lst xs)) (h2 : H b = some (.dT kvs)) : a ≠ b := fun e => by
  rw [e, h2] at h1
  cases h1
/-- what is new to a later heap was new before, or is one's own -/
theorem Ch.fresh (c : Ch o H H') (h : H' x = none) : x ∈ o ∨ H x = none := by
  by_cases m : x ∈ o
  · exact .inl m
  · cases e : H x with
    | none => exact .inr rfl
    | some u =>
      rw [c.get m e] at h
      cases h
end
section
variable {σ : St} {H : Hp} {n b c : St → Hp → Prop} {r : VK} {Q : VK} {K : Frg} {a C dx : Addr} {fs : List (Str × V)} {f : Str} {v : V}
theorem r_fsetE {R : Hp → Prop} {fs' : List (Str × V)} (h : H a = some (.ins C dx fs)) (cl : Cls K C) (na : NoAttr K C f) (hl : fs.length < 1000) (e : putF f v fs = fs') (q : ∀ H', H' a = some (.ins C dx fs') → Eb a H H' → R H') :
    ∃ a' C dx fs, V.ref a = .ref a' ∧ H a' = some (.ins C dx fs) ∧ Cls K C ∧ NoAttr K C f ∧ fs.length < 1000 ∧ R (upd H a' (.ins C dx (putF f v fs))) := r_fset h cl na hl e (q _ upd_same (Eb.upd h fun xs e => by cases e))
theorem r_appE {p : Addr} {xs : List V} {y : V} (h : H p = some (.lst xs)) (hl : xs.length < sizeLine) (q : ∀ H', H' p = some (.lst (xs ++ [y])) → Eb p H H' → Q .non H') : rAppend (.ref p) [y] H Q := r_app h hl (q _ upd_same (Eb.upd h fun xs e => by cases e))
theorem r_popE {p : Addr} {xs : List V} {y : V} (h : H p = some (.lst (xs ++ [y]))) (q : ∀ H', H' p = some (.lst xs) → Eb p H H' → Q y H') : rPop (.ref p) [] H Q := by
  refine ⟨p, _, y, rfl, rfl, h, ?_, ?_⟩
  · rw [List.length_append]
    show (xs ++ [y])[xs.length + 1 - 1]? = some y
    simp
  · exact q _ (by rw [upd_same, List.dropLast_concat]) (Eb.upd h fun xs e => by cases e)
theorem r_orT {ta tb : TE} (h : ta σ H fun x H1 => ∃ k, TruV K x H1 k ∧ if k = true then Q x H1 else tb σ H1 Q) : tOrT K ta tb σ H Q := h
theorem pe_alt {X : Cx} {e : Expr} {t u : TE} (h1 : PE X e t) (h2 : PE X e u) : PE X e (fun σ H Q => t σ H Q ∨ u σ H Q) := by
  refine ⟨fun pins s σ H Q I h => ?_⟩
  rcases h with h | h
  · exact h1.run pins s σ H Q I h
  · exact h2.run pins s σ H Q I h
end
/-! ### new objects by what is known of the heap behind them -/
section
variable {X : Cx} {es : List Expr} {t : TA} {pos : Pos}
theorem pa_mono (ha : PA X es t) : PA X es (fun σ H R => ∃ R0 : List V → Hp → Prop, t σ H R0 ∧ ∀ xs H1, R0 xs H1 → R xs H1) :=
  ⟨fun pos pins s σ H Q I ⟨R0, h, im⟩ => wpAny_mono (ha.run pos pins s σ H R0 I h) (fun us s' ⟨xs, H', I', r, q⟩ => ⟨xs, H', I', r, im _ _ q⟩) fun _ _ x => x⟩
def tLstE (t : TA) : TE := fun σ H Q => t σ H fun xs H1 => xs.length ≤ sizeLine ∧ ∀ p H2, H1 p = none → H2 p = some (.lst xs) → Same H1 H2 → Q (.ref p) H2
def tTupE (t : TA) : TE := fun σ H Q => t σ H fun xs H1 => xs.length ≤ sizeLine ∧ ∀ p H2, H1 p = none → H2 p = some (.tup xs) → Same H1 H2 → Q (.ref p) H2
def tDnwE : TE := fun _ H Q => ∀ p H2, H p = none → H2 p = some (.dT []) → Same H H2 → Q (.ref p) H2
theorem pe_lstE {p : Pos} (ha : PA X es t) : PE X (.List es p) (tLstE t) := ⟨fun pins s σ H Q I h => (pe_lst (pa_mono ha)).run pins s σ H Q I ⟨_, h, fun xs H1 q => ⟨q.1, fun p np => q.2 p _ np upd_same (same_upd np _)⟩⟩⟩
theorem pe_tupE {k : Nat} {p : Pos} (ha : PA X es t) : PE X (.Tuple es k p) (tTupE t) := ⟨fun pins s σ H Q I h => (pe_tup (pa_mono ha)).run pins s σ H Q I ⟨_, h, fun xs H1 q => ⟨q.1, fun p np => q.2 p _ np upd_same (same_upd np _)⟩⟩⟩
theorem pe_dnwE {pos : Pos} : PE X (.Dict [] [] pos) tDnwE := ⟨fun pins s σ H Q I h => pe_dnewT.run pins s σ H Q I fun p np => h p _ np upd_same (same_upd np _)⟩
def rListE (K : Frg) : List V → Hp → VK → Prop := fun xs H Q => ∃ p ys, xs = [.ref p] ∧ (SqL K H p ys ∨ SqT K H p ys) ∧ ∀ l H2, H l = none → H2 l = some (.lst ys) → Same H H2 → Q (.ref l) H2
def rTupleE (K : Frg) : List V → Hp → VK → Prop := fun xs H Q => ∃ p ys, xs = [.ref p] ∧ ((SqL K H p ys ∧ ∀ l H2, H l = none → H2 l = some (.tup ys) → Same H H2 → Q (.ref l) H2) ∨ (SqT K H p ys ∧ Q (.ref p) H))
theorem call_list_ofE : CallR X (.type "list") (rListE X.K) := fun pins s σ H xs us Q I r ⟨p, ys, e, o, q⟩ => call_list_of pins s σ H xs us Q I r ⟨p, ys, e, o, fun l nl => q l _ nl upd_same (same_upd nl _)⟩
theorem call_tuple_ofE : CallR X (.type "tuple") (rTupleE X.K) := fun pins s σ H xs us Q I r ⟨p, ys, e, o⟩ => call_tuple_of pins s σ H xs us Q I r ⟨p, ys, e, o.imp (fun q => ⟨q.1, fun l nl => q.2 l _ nl upd_same (same_upd nl _)⟩) id⟩
end
section
variable {σ : St} {H : Hp} {Q : VK} {K : Frg} {t : TA}
theorem r_lstE (h : t σ H fun xs H1 => xs.length ≤ sizeLine ∧ ∀ p H2, H1 p = none → H2 p = some (.lst xs) → Same H1 H2 → Q (.ref p) H2) : tLstE t σ H Q := h
theorem r_tupE (h : t σ H fun xs H1 => xs.length ≤ sizeLine ∧ ∀ p H2, H1 p = none → H2 p = some (.tup xs) → Same H1 H2 → Q (.ref p) H2) : tTupE t σ H Q := h
theorem r_dnwE (h : ∀ p H2, H p = none → H2 p = some (.dT []) → Same H H2 → Q (.ref p) H2) : tDnwE σ H Q := h
theorem Same.ne {H : Hp} {p x : Addr} {u : HO} (np : H p = none) (h : H x = some u) : x ≠ p := fun e => by rw [e, np] at h; cases h
/-- list(xs) of a list -/
theorem r_toL {p : Addr} {ys : List V} (hs : SqL K H p ys) (q : ∀ l H2, H l = none → H2 l = some (.lst ys) → Same H H2 → Q (.ref l) H2) : rListE K [.ref p] H Q := ⟨p, ys, rfl, .inl hs, q⟩
theorem r_toLt {p : Addr} {ys : List V} (hs : SqT K H p ys) (q : ∀ l H2, H l = none → H2 l = some (.lst ys) → Same H H2 → Q (.ref l) H2) : rListE K [.ref p] H Q := ⟨p, ys, rfl, .inr hs, q⟩
theorem r_toT {p : Addr} {ys : List V} (hs : SqL K H p ys) (q : ∀ l H2, H l = none → H2 l = some (.tup ys) → Same H H2 → Q (.ref l) H2) : rTupleE K [.ref p] H Q := ⟨p, ys, rfl, .inl ⟨hs, q⟩⟩
end
/-- an expression whose value is known, whatever is wished of it -/
theorem r_joinE {σ : St} {H : Hp} {Q : VK} {t : TE} (v : V) (h1 : ∀ R : VK, R v H → t σ H R) (h : Q v H) : t σ H Q := h1 Q h

/-! ### a try whose body raises nothing -/
section
variable {X : Cx} {body : List Stmt} {h₀ : ExceptHandler} {hs : List ExceptHandler} {t : TS} {pos : Pos}
theorem ps_tryN0 (hn : ∀ e s, ¬ X.xe e s) (hb : PSs X body t) : PS X (.Try body (h₀ :: hs) [] [] pos) t := ps_try_never (u := tNext) hn hb pss_nil
end

/-! ### rows of things, entries -/
theorem map_get {α : Type} {f : α → V} {l : List α} {i : Nat} {x : V} (h : (l.map f)[i]? = some x) : ∃ e, l[i]? = some e ∧ x = f e ∧ l.take (i + 1) = l.take i ++ [e] := by
  rw [List.getElem?_map] at h
  obtain ⟨e, h1, h2⟩ := Option.map_eq_some_iff.mp h
  refine ⟨e, h1, h2.symm, ?_⟩
  rw [List.take_succ, h1]
  rfl
theorem dpa_map {α : Type} {K : Frg} {H : Hp} {f : α → V} {g : α → PyData} : ∀ {l : List α}, (∀ e ∈ l, Dp K H (f e) (g e)) → DpAll K H (l.map f) (l.map g)
  | [], _ => .nil
  | x :: l, h => .cons (h x (List.mem_cons_self ..)) (dpa_map fun e he => h e (List.mem_cons_of_mem _ he))
theorem tpa_map {α : Type} {H : Hp} {f : α → V} {g : α → PyData} : ∀ {l : List α}, (∀ e ∈ l, Tp H (f e) (g e)) → TpAll H (l.map f) (l.map g)
  | [], _ => .nil
  | x :: l, h => .cons (h x (List.mem_cons_self ..)) (tpa_map fun e he => h e (List.mem_cons_of_mem _ he))
theorem vl_ref {H : Hp} {v : V} {t : Vl} (h : Tp H v t.dat) : ∃ u, v = .ref u := by
  cases t <;> (obtain ⟨a, _, e, _⟩ := tp_tup h; exact ⟨a, e⟩)
theorem EntAt.tk {H H' : Hp} {e : Ent} (k : Tk H H') (h : EntAt H e) : EntAt H' e := ⟨k _ _ h.1, k _ _ h.2⟩

/-! ### a sleeping generator stays as it is while others run: its twin in the table can't be woken -/
/-- what can't go on -/
def stuckK : Resume → Sem PySem.Fin := fun _ => .unsupported ""
def twinG : GenState → GenState
  | .suspended _ l c p fs cl => .suspended stuckK l c p fs cl
  | y => y
theorem twinG_seen (a : GenState) : (twinG a).seen = a.seen := by cases a <;> rfl
theorem twinG_bare (a : GenState) : (twinG a).bare = a.bare := by cases a <;> rfl
/-- it sleeps without another generator's frame below -/
def SwOk : GenState → Prop
  | .suspended _ _ _ _ fs _ => splitAtGen fs = none
  | _ => True
def StuckAt (T : Array GenState) (i : Nat) : Prop := ∃ l c p fs cl, T[i]? = some (.suspended stuckK l c p fs cl)
/-- the table G and its twin T: at the places of S stand twins -/
structure TwT (S : Nat → Prop) (G T : Array GenState) : Prop where
  size : T.size = G.size
  low : ∀ i, S i → i < G.size
  out : ∀ i a, ¬ S i → G[i]? = some a → T[i]? = some a ∧ SwOk a
  ins : ∀ i a, S i → G[i]? = some a → T[i]? = some (twinG a) ∧ StuckAt T i
theorem no_stuck0 {M : Model} {Γ : PySem.Ctx} {p : Pos} {x : String} {s s' : Shared} {e : End} (h : Runs M Γ p (.unsupported x) [] s e s') : False := by cases h
theorem no_stuck {M : Model} {Γ : PySem.Ctx} {p : Pos} {x : String} {fs : List Frame} {s s' : Shared} {e : End} (h : Runs M Γ p (.unsupported x) fs s e s') : False := by
  cases h with
  | segRet a _ => exact no_stuck0 a
  | segGen a _ => exact no_stuck0 a
  | segSuspOut _ a => exact no_stuck0 a
  | segSuspGen _ a _ _ => exact no_stuck0 a
theorem split_app : ∀ {a b : List Frame}, splitAtGen a = none → splitAtGen b = none → splitAtGen (a ++ b) = none
  | [], _, _, h => h
  | .gen .. :: _, _, h, _ => by cases h
  | .ret k h' g l c p kp :: r, b, h, hb => by
    have hr : splitAtGen r = none := by
      show splitAtGen r = none
      have h2 : (splitAtGen r).map (fun x => (Frame.ret k h' g l c p kp :: x.1, x.2.1, x.2.2)) = none := h
      cases q : splitAtGen r with
      | none => rfl
      | some v => rw [q] at h2; cases h2
    show (splitAtGen (r ++ b)).map (fun x => (Frame.ret k h' g l c p kp :: x.1, x.2.1, x.2.2)) = none
    rw [split_app hr hb]
    rfl
theorem split_tail {F : Frame} {r : List Frame} (h : splitAtGen (F :: r) = none) : splitAtGen r = none := by
  cases F with
  | gen => cases h
  | ret k h' g l c p kp =>
    have h2 : (splitAtGen r).map (fun x => (Frame.ret k h' g l c p kp :: x.1, x.2.1, x.2.2)) = none := h
    cases q : splitAtGen r with
    | none => rfl
    | some v => rw [q] at h2; cases h2
section
variable {S : Nat → Prop} {G T : Array GenState}
theorem TwT.push (h : TwT S G T) (c : Code) : TwT S (G.push (.fresh c)) (T.push (.fresh c)) where
  size := by simp [h.size]
  low := fun i q => by
    have := h.low i q
    simp
    omega
  out := fun i a n e => by
    rw [Array.getElem?_push] at e ⊢
    by_cases hi : i = G.size
    · rw [if_pos hi] at e
      rw [if_pos (by rw [h.size]; exact hi)]
      cases e
      exact ⟨rfl, trivial⟩
    · rw [if_neg hi] at e
      rw [if_neg (by rw [h.size]; exact hi)]
      exact h.out i a n e
  ins := fun i a y e => by
    have hi : i ≠ G.size := Nat.ne_of_lt (h.low i y)
    rw [Array.getElem?_push, if_neg hi] at e
    obtain ⟨q, l, c', p, fs, cl, r⟩ := h.ins i a y e
    refine ⟨?_, l, c', p, fs, cl, ?_⟩
    · rw [Array.getElem?_push, if_neg (by rw [h.size]; exact hi)]
      exact q
    · rw [Array.getElem?_push, if_neg (by rw [h.size]; exact hi)]
      exact r
theorem TwT.has (h : TwT S G T) {i : Nat} {b : GenState} (e : T[i]? = some b) : ∃ a, G[i]? = some a := by
  have hi : i < T.size := (Array.getElem?_eq_some_iff.mp e).1
  exact ⟨G[i]'(by rw [← h.size]; exact hi), Array.getElem?_eq_getElem _⟩
/-- what stands at a place may be another thing's twin only there -/
theorem TwT.same (h : TwT S G T) {i : Nat} {b : GenState} (e : T[i]? = some b) (n : ¬ S i) : G[i]? = some b ∧ SwOk b := by
  obtain ⟨a, ha⟩ := h.has e
  obtain ⟨q, o⟩ := h.out i a n ha
  rw [e] at q
  cases q
  exact ⟨ha, o⟩
theorem TwT.stuck (h : TwT S G T) {i : Nat} {b : GenState} (e : T[i]? = some b) (n : S i) : ∃ l c p fs cl, b = .suspended stuckK l c p fs cl := by
  obtain ⟨a, ha⟩ := h.has e
  obtain ⟨_, l, c, p, fs, cl, r⟩ := h.ins i a n ha
  rw [e] at r
  exact ⟨l, c, p, fs, cl, Option.some.inj r⟩
theorem TwT.set (h : TwT S G T) {j : Nat} {y : GenState} (n : ¬ S j) (o : SwOk y) : TwT S (G.setIfInBounds j y) (T.setIfInBounds j y) where
  size := by simp [h.size]
  low := fun i q => by
    have := h.low i q
    simpa using this
  out := fun i a ni e => by
    by_cases hi : i = j
    · subst hi
      rw [Array.getElem?_setIfInBounds_self] at e ⊢
      rw [h.size]
      split at e
      · rename_i hlt
        cases e
        exact ⟨by rw [if_pos hlt], o⟩
      · cases e
    · rw [Array.getElem?_setIfInBounds_ne (Ne.symm hi)] at e ⊢
      exact h.out i a ni e
  ins := fun i a y' e => by
    have hi : i ≠ j := fun z => n (z ▸ y')
    rw [Array.getElem?_setIfInBounds_ne (Ne.symm hi)] at e
    obtain ⟨q, l, c, p, fs, cl, r⟩ := h.ins i a y' e
    exact ⟨by rw [Array.getElem?_setIfInBounds_ne (Ne.symm hi)]; exact q, l, c, p, fs, cl, by rw [Array.getElem?_setIfInBounds_ne (Ne.symm hi)]; exact r⟩
end
/-- what sleeps at the places of S stays -/
def KeptG (S : Nat → Prop) (G G' : Array GenState) : Prop := ∀ i, S i → G'[i]? = G[i]?
theorem KeptG.trans {S : Nat → Prop} {A B C : Array GenState} (a : KeptG S A B) (b : KeptG S B C) : KeptG S A C := fun i y => (b i y).trans (a i y)
theorem KeptG.push {S : Nat → Prop} {G : Array GenState} {c : Code} (h : ∀ i, S i → i < G.size) : KeptG S G (G.push (.fresh c)) := fun i y => by
  rw [Array.getElem?_push, if_neg (Nat.ne_of_lt (h i y))]
theorem KeptG.set {S : Nat → Prop} {G : Array GenState} {j : Nat} {y : GenState} (n : ¬ S j) : KeptG S G (G.setIfInBounds j y) := fun i h => by
  rw [Array.getElem?_setIfInBounds_ne fun z => n (by rw [z]; exact h)]
def withG (s : Shared) (G : Array GenState) : Shared := { s with gens := G }
/-- the same run over the table itself -/
theorem runs_swap {S : Nat → Prop} {M : Model} {Γ : PySem.Ctx} {p : Pos} {t : Sem PySem.Fin} {fs : List Frame} {s s' : Shared} {e : End} (h : Runs M Γ p t fs s e s') :
    splitAtGen fs = none → ∀ G, TwT S G s.gens → ∃ G', Runs M Γ p t fs (withG s G) e (withG s' G') ∧ TwT S G' s'.gens ∧ KeptG S G G' ∧ SwOk e.genState := by
  induction h with
  | done => exact fun _ G q => ⟨G, .done, q, fun _ _ => rfl, trivial⟩
  | raise => exact fun _ G q => ⟨G, .raise, q, fun _ _ => rfl, trivial⟩
  | again hq _ ih => exact fun f G q => let ⟨G', r, z⟩ := ih f G q; ⟨G', .again hq r, z⟩
  | rule _ ih => exact fun f G q => let ⟨G', r, z⟩ := ih f G q; ⟨G', .rule r, z⟩
  | «at» _ ih => exact fun f G q => let ⟨G', r, z⟩ := ih f G q; ⟨G', .at r, z⟩
  | load ho _ ih => exact fun f G q => let ⟨G', r, z⟩ := ih f G q; ⟨G', .load (s := withG _ G) ho r, z⟩
  | update ho _ ih => exact fun f G q => let ⟨G', r, z⟩ := ih f G q; ⟨G', .update (s := withG _ G) ho r, z⟩
  | loadIfAlive _ ih => exact fun f G q => let ⟨G', r, z⟩ := ih f G q; ⟨G', .loadIfAlive (s := withG _ G) r, z⟩
  | point _ ih => exact fun f G q => let ⟨G', r, z⟩ := ih f G q; ⟨G', .point r, z⟩
  | alloc _ ih => exact fun f G q => let ⟨G', r, z⟩ := ih f G q; ⟨G', .alloc (s := withG _ G) r, z⟩
  | fresh _ ih => exact fun f G q => let ⟨G', r, z⟩ := ih f G q; ⟨G', .fresh (s := withG _ G) r, z⟩
  | ask _ ih => exact fun f G q => let ⟨G', r, z⟩ := ih f G q; ⟨G', .ask r, z⟩
  | choose hn _ ih => exact fun f G q => let ⟨G', r, z⟩ := ih f G q; ⟨G', .choose (s := withG _ G) hn r, z⟩
  | os _ ih => exact fun f G q => let ⟨G', r, z⟩ := ih f G q; ⟨G', .os (s := withG _ G) r, z⟩
  | handled _ ih => exact fun f G q => let ⟨G', r, z⟩ := ih f G q; ⟨G', .handled r, z⟩
  | genState hg _ ih =>
    rename_i gg _ _ _ _ _ _ _ _
    intro f G q
    obtain ⟨G', r, z⟩ := ih f G q
    obtain ⟨a, ha⟩ := q.has hg
    by_cases hs : S gg
    · obtain ⟨e1, _⟩ := q.ins _ a hs ha
      rw [hg] at e1
      cases e1
      rw [twinG_seen] at r
      exact ⟨G', .genState (s := withG _ G) ha r, z⟩
    · obtain ⟨e1, _⟩ := q.out _ a hs ha
      rw [hg] at e1
      cases e1
      exact ⟨G', .genState (s := withG _ G) ha r, z⟩
  | stack _ ih => exact fun f G q => let ⟨G', r, z⟩ := ih f G q; ⟨G', .stack r, z⟩
  | thread _ ih => exact fun f G q => let ⟨G', r, z⟩ := ih f G q; ⟨G', .thread r, z⟩
  | newGen _ ih =>
    intro f G q
    obtain ⟨G', r, z1, z2, z3⟩ := ih f _ (q.push _)
    rw [q.size] at r
    exact ⟨G', .newGen (s := withG _ G) r, z1, (KeptG.push q.low).trans z2, z3⟩
  | call _ _ ih1 ih2 =>
    intro f G q
    obtain ⟨G1, r1, q1, k1, _⟩ := ih1 rfl G q
    obtain ⟨G2, r2, q2, k2, o2⟩ := ih2 rfl G1 q1
    exact ⟨G2, .call r1 r2, q2, k1.trans k2, o2⟩
  | callSusp _ ih =>
    intro f G q
    obtain ⟨G1, r1, q1, k1, o1⟩ := ih rfl G q
    exact ⟨G1, .callSusp r1, q1, k1, split_app o1 rfl⟩
  | yield => exact fun _ G q => ⟨G, .yield, q, fun _ _ => rfl, rfl⟩
  | resumeFresh hg _ hq _ ih1 ih2 =>
    intro f G q
    have ns : ¬ S _ := fun y => by
      obtain ⟨_, _, _, _, _, z⟩ := q.stuck hg y
      cases z
    obtain ⟨hG, _⟩ := q.same hg ns
    obtain ⟨G1, r1, q1, k1, o1⟩ := ih1 rfl (G.setIfInBounds _ .running) (q.set ns trivial)
    obtain ⟨G2, r2, q2, k2, o2⟩ := ih2 rfl (G1.setIfInBounds _ _) (q1.set ns o1)
    exact ⟨G2, .resumeFresh (s := withG _ G) hG r1 hq r2, q2, ((KeptG.set ns).trans k1).trans ((KeptG.set ns).trans k2), o2⟩
  | resumeSuspended hg hr hq _ ih1 ih2 =>
    intro f G q
    have ns : ¬ S _ := fun y => by
      obtain ⟨_, _, _, _, _, z⟩ := q.stuck hg y
      cases z
      exact no_stuck hr
    obtain ⟨hG, hf⟩ := q.same hg ns
    obtain ⟨G1, r1, q1, k1, o1⟩ := ih1 hf (G.setIfInBounds _ .running) (q.set ns trivial)
    obtain ⟨G2, r2, q2, k2, o2⟩ := ih2 rfl (G1.setIfInBounds _ _) (q1.set ns o1)
    exact ⟨G2, .resumeSuspended (s := withG _ G) hG r1 hq r2, q2, ((KeptG.set ns).trans k1).trans ((KeptG.set ns).trans k2), o2⟩
  | resumeJustStarted hg hv _ ih =>
    intro f G q
    have ns : ¬ S _ := fun y => by
      obtain ⟨_, _, _, _, _, z⟩ := q.stuck hg y
      cases z
    obtain ⟨hG, _⟩ := q.same hg ns
    obtain ⟨G1, r1, z⟩ := ih f G q
    exact ⟨G1, .resumeJustStarted (s := withG _ G) hG hv r1, z⟩
  | resumeThrowFresh hg _ ih =>
    intro f G q
    have ns : ¬ S _ := fun y => by
      obtain ⟨_, _, _, _, _, z⟩ := q.stuck hg y
      cases z
    obtain ⟨hG, _⟩ := q.same hg ns
    obtain ⟨G1, r1, q1, k1, o1⟩ := ih f (G.setIfInBounds _ .finished) (q.set ns trivial)
    exact ⟨G1, .resumeThrowFresh (s := withG _ G) hG r1, q1, (KeptG.set ns).trans k1, o1⟩
  | resumeRunning hg _ ih =>
    intro f G q
    have ns : ¬ S _ := fun y => by
      obtain ⟨_, _, _, _, _, z⟩ := q.stuck hg y
      cases z
    obtain ⟨hG, _⟩ := q.same hg ns
    obtain ⟨G1, r1, z⟩ := ih f G q
    exact ⟨G1, .resumeRunning (s := withG _ G) hG r1, z⟩
  | resumeFinished hg _ ih =>
    intro f G q
    have ns : ¬ S _ := fun y => by
      obtain ⟨_, _, _, _, _, z⟩ := q.stuck hg y
      cases z
    obtain ⟨hG, _⟩ := q.same hg ns
    obtain ⟨G1, r1, z⟩ := ih f G q
    exact ⟨G1, .resumeFinished (s := withG _ G) hG r1, z⟩
  | segRet _ _ ih1 ih2 =>
    intro f G q
    obtain ⟨G1, r1, q1, k1, _⟩ := ih1 rfl G q
    obtain ⟨G2, r2, q2, k2, o2⟩ := ih2 (split_tail f) G1 q1
    exact ⟨G2, .segRet r1 r2, q2, k1.trans k2, o2⟩
  | segGen => intro f; cases f
  | segSuspOut hf _ ih =>
    intro f G q
    obtain ⟨G1, r1, q1, k1, o1⟩ := ih rfl G q
    exact ⟨G1, .segSuspOut hf r1, q1, k1, split_app o1 hf⟩
  | segSuspGen hf => intro f; rw [hf] at f; cases f
/-- .. behind a code -/
theorem wakes_swap {S : Nat → Prop} {M : Model} {Γ : PySem.Ctx} {p : Pos} {g : Nat} {r : Resume} {s s' : Shared} {res : GenResult} {G : Array GenState} (h : Wakes M Γ p g r s res s') (q : TwT S G s.gens) :
    ∃ G', Wakes M Γ p g r (withG s G) res (withG s' G') ∧ TwT S G' s'.gens ∧ KeptG S G G' := by
  unfold Wakes at h
  have same : ∀ {b : GenState}, s.gens[g]? = some b → (∀ l c p fs cl, b ≠ .suspended stuckK l c p fs cl) → ¬ S g := fun e n y => by
    obtain ⟨l, c, p, fs, cl, z⟩ := q.stuck e y
    exact n l c p fs cl z
  split at h
  · exact h.elim
  · rename_i c hg
    have ns := same hg fun _ _ _ _ _ z => nomatch z
    obtain ⟨hG, _⟩ := q.same hg ns
    unfold Wakes
    rw [show (withG s G).gens[g]? = some (.fresh c) from hG]
    dsimp only
    split at h
    · obtain ⟨e1, s1, hr, hq, rfl, rfl⟩ := h
      obtain ⟨G1, r1, q1, k1, o1⟩ := runs_swap hr rfl (G.setIfInBounds g .running) (q.set ns trivial)
      exact ⟨G1.setIfInBounds g e1.genState, ⟨e1, withG s1 G1, r1, hq, rfl, rfl⟩, q1.set ns o1, ((KeptG.set ns).trans k1).trans (KeptG.set ns)⟩
    · obtain ⟨h1, rfl⟩ := h
      exact ⟨G, ⟨h1, rfl⟩, q, fun _ _ => rfl⟩
    · obtain ⟨h1, rfl⟩ := h
      exact ⟨G.setIfInBounds g .finished, ⟨h1, rfl⟩, q.set ns trivial, KeptG.set ns⟩
  · rename_i k0 l0 c0 p0 fs0 cl hg
    obtain ⟨e1, s1, hr, hq, rfl, rfl⟩ := h
    have ns : ¬ S g := fun y => by
      obtain ⟨_, _, _, _, _, z⟩ := q.stuck hg y
      cases z
      exact no_stuck hr
    obtain ⟨hG, hf⟩ := q.same hg ns
    unfold Wakes
    rw [show (withG s G).gens[g]? = _ from hG]
    obtain ⟨G1, r1, q1, k1, o1⟩ := runs_swap hr hf (G.setIfInBounds g .running) (q.set ns trivial)
    exact ⟨G1.setIfInBounds g e1.genState, ⟨e1, withG s1 G1, r1, hq, rfl, rfl⟩, q1.set ns o1, ((KeptG.set ns).trans k1).trans (KeptG.set ns)⟩
  · rename_i hg
    have ns := same hg fun _ _ _ _ _ z => nomatch z
    obtain ⟨hG, _⟩ := q.same hg ns
    obtain ⟨h1, rfl⟩ := h
    refine ⟨G, ?_, q, fun _ _ => rfl⟩
    unfold Wakes
    rw [show (withG s' G).gens[g]? = _ from hG]
    exact ⟨h1, rfl⟩
  · rename_i hg
    have ns := same hg fun _ _ _ _ _ z => nomatch z
    obtain ⟨hG, _⟩ := q.same hg ns
    obtain ⟨h1, rfl⟩ := h
    refine ⟨G, ?_, q, fun _ _ => rfl⟩
    unfold Wakes
    rw [show (withG s' G).gens[g]? = _ from hG]
    exact ⟨h1, rfl⟩
/-- what is told of the twin's run, over the table itself -/
def Sw (S : Nat → Prop) (G : Array GenState) {α : Type} (Q : α → Shared → Prop) (a : α) (s' : Shared) : Prop := ∃ sT G', s' = withG sT G' ∧ TwT S G' sT.gens ∧ KeptG S G G' ∧ Q a sT
theorem Sw.trans {S : Nat → Prop} {G G1 : Array GenState} {α : Type} {Q : α → Shared → Prop} {a : α} {s' : Shared} (k : KeptG S G G1) (h : Sw S G1 Q a s') : Sw S G Q a s' := by
  obtain ⟨sT, G', e, q, k', z⟩ := h
  exact ⟨sT, G', e, q, k.trans k', z⟩
theorem wp_swap {α : Type} {S : Nat → Prop} (M : Model) (Γ : PySem.Ctx) (t : Sem α) : ∀ (Q : α → Shared → Prop) (E : Value → Shared → Prop) (p : Pos) (s : Shared) (G : Array GenState), TwT S G s.gens →
    Sem.wp M Γ t (fun a _ s' => Q a s') (fun e _ s' => E e s') p s → Sem.wp M Γ t (fun a _ s' => Sw S G Q a s') (fun e _ s' => Sw S G E e s') p (withG s G) := by
  have upg : ∀ {β : Type} {t : Sem β} {Q Q' : β → Pos → Shared → Prop} {E E' : Value → Pos → Shared → Prop} {p : Pos} {s : Shared}, Sem.wp M Γ t Q E p s → (∀ a p s, Q a p s → Q' a p s) → (∀ a p s, E a p s → E' a p s) → Sem.wp M Γ t Q' E' p s := fun h a b => Sem.wp_mono M Γ _ a b _ _ h
  induction t with
  | pure a => exact fun Q E p s G q h => ⟨s, G, rfl, q, fun _ _ => rfl, h⟩
  | raise e => exact fun Q E p s G q h => ⟨s, G, rfl, q, fun _ _ => rfl, h⟩
  | unsupported _ => exact fun Q E p s G q h => h
  | finish _ => exact fun Q E p s G q h => h
  | rule _ k ih => exact fun Q E p s G q h => ih () Q E p s G q h
  | «at» p' k ih => exact fun Q E p s G q h => ih () Q E p' s G q h
  | load a _ k ih => exact fun Q E p s G q h => let ⟨o, ho, h⟩ := h; ⟨o, ho, ih o Q E p s G q h⟩
  | update a _ f k ih => exact fun Q E p s G q h => ⟨h.1, ih () Q E p { s with heap := s.heap.update a f } G q h.2⟩
  | loadIfAlive a k ih => exact fun Q E p s G q h => ih _ Q E p s G q h
  | point _ k ih => exact fun Q E p s G q h => ih () Q E p s G q h
  | register _ _ => exact fun Q E p s G q h => h
  | alloc o k ih => exact fun Q E p s G q h => ih s.heap.objs.size Q E p { s with heap := s.heap.push o } G q h
  | fresh k ih => exact fun Q E p s G q h => ih s.toks Q E p { s with toks := s.toks + 1 } G q h
  | ask k ih => exact fun Q E p s G q h => ih _ Q E p s G q h
  | choose src m k ih => exact fun Q E p s G q h => ⟨h.1, ih (M.w.draws src (s.drawn.get src) % m) Q E p { s with drawn := s.drawn.bump src } G q h.2⟩
  | os q' _ k ih => exact fun Q E p s G q h => ih (Os.step s.os q').2 Q E p { s with os := (Os.step s.os q').1 } G q h
  | call c hd _ _ k ih =>
    intro Q E p s G q h
    obtain ⟨r, s', hr, h⟩ := h
    obtain ⟨G1, r1, q1, k1, _⟩ := runs_swap hr rfl G q
    exact ⟨r, withG s' G1, r1, upg (ih r Q E p s' G1 q1 h) (fun _ _ _ z => z.trans k1) fun _ _ _ z => z.trans k1⟩
  | handled own k ih => exact fun Q E p s G q h => ih _ Q E p s G q h
  | genState g k ih =>
    intro Q E p s G q h
    obtain ⟨st, hs, h⟩ := h
    obtain ⟨a, ha⟩ := q.has hs
    refine ⟨a, ha, ?_⟩
    by_cases hg : S g
    · obtain ⟨e1, _⟩ := q.ins g a hg ha
      rw [hs] at e1
      cases e1
      rw [twinG_seen] at h
      exact ih _ Q E p s G q h
    · obtain ⟨e1, _⟩ := q.out g a hg ha
      rw [hs] at e1
      cases e1
      exact ih _ Q E p s G q h
  | newGen c k ih =>
    intro Q E p s G q h
    have h2 := ih s.gens.size Q E p { s with gens := s.gens.push (.fresh c) } _ (q.push c) h
    rw [q.size] at h2
    exact upg (p := p) (s := withG { s with gens := s.gens.push (.fresh c) } (G.push (.fresh c))) h2 (fun _ _ _ z => z.trans (KeptG.push q.low)) fun _ _ _ z => z.trans (KeptG.push q.low)
  | resume g r _ k ih =>
    intro Q E p s G q h
    obtain ⟨res, s', hw, h⟩ := h
    obtain ⟨G1, r1, q1, k1⟩ := wakes_swap hw q
    exact ⟨res, withG s' G1, r1, upg (ih res Q E p s' G1 q1 h) (fun _ _ _ z => z.trans k1) fun _ _ _ z => z.trans k1⟩
  | yield _ _ _ _ => exact fun Q E p s G q h => h
  | stack k ih => exact fun Q E p s G q h => ih _ Q E p s G q h
  | fork _ _ => exact fun Q E p s G q h => h
  | thread k ih => exact fun Q E p s G q h => ih _ Q E p s G q h
  | await _ _ _ _ _ => exact fun Q E p s G q h => h
theorem wpAny_swap {α : Type} {S : Nat → Prop} {M : Model} {A : Around} {t : Sem α} {Q : α → Shared → Prop} {E : Value → Shared → Prop} {s : Shared} {G : Array GenState} (q : TwT S G s.gens) (h : wpAny M A t Q E s) :
    wpAny M A t (Sw S G Q) (Sw S G E) (withG s G) := fun Γ p hΓ => wp_swap M Γ t Q E p s G q (h Γ p hΓ)
/-- all that sleep, twinned -/
def sleeps : GenState → Prop
  | .suspended .. => True
  | _ => False
theorem twT_map (G : Array GenState) : TwT (fun i => ∃ a, G[i]? = some a ∧ sleeps a) G (G.map twinG) where
  size := by simp
  low := fun i ⟨a, e, _⟩ => (Array.getElem?_eq_some_iff.mp e).1
  out := fun i a n e => by
    have z : ¬ sleeps a := fun y => n ⟨a, e, y⟩
    rw [Array.getElem?_map, e]
    cases a with
    | suspended => exact absurd trivial z
    | _ => exact ⟨rfl, trivial⟩
  ins := fun i a ⟨b, e', y⟩ e => by
    rw [e] at e'
    cases e'
    rw [StuckAt, Array.getElem?_map, e]
    cases a with
    | suspended k l c p fs cl => exact ⟨rfl, l, c, p, fs, cl, rfl⟩
    | _ => exact y.elim
theorem bare_twin {G : Array GenState} (h : PyProof.Rows.AllBare G) : PyProof.Rows.AllBare (G.map twinG) := fun y hy => by
  obtain ⟨a, ha, rfl⟩ := Array.mem_map.mp hy
  rw [twinG_bare]
  exact h a ha
theorem TwT.bare {S : Nat → Prop} {G T : Array GenState} (q : TwT S G T) (h : PyProof.Rows.AllBare T) : PyProof.Rows.AllBare G := fun y hy => by
  obtain ⟨i, hi, e⟩ := Array.mem_iff_getElem.mp hy
  have e1 : G[i]? = some y := by rw [Array.getElem?_eq_getElem hi, e]
  by_cases hs : S i
  · have z := h _ (Array.mem_of_getElem? (q.ins i y hs e1).1)
    rw [twinG_bare] at z
    exact z
  · exact h _ (Array.mem_of_getElem? (q.out i y hs e1).1)

/-! ### a generator that sleeps within the frame X: where it stands, what it leaves alone -/
structure GP where
  X : Cx
  Aw : Around
  N : List Str
  qual : Str
  scope : Scope
  f : Addr
  cd : Value
  L : Addr
  n0 : Nat
  D : Hp
def GP.env (G : GP) : Env := PyProof.Rows.envOfC G.qual G.scope G.L G.f G.cd
/-- its own frame, told from the state s0 -/
def GP.cx (G : GP) (s0 : Shared) : Cx where
  prog := G.X.prog
  w := G.X.w
  K := G.X.K
  mg := G.X.mg
  base := G.X.base
  A := G.Aw.deeper G.env
  N := G.N
  s_0 := s0
  H_0 := G.D
  env := G.env
  outer := G.X.stack
  stack := G.env :: G.X.stack
  ex := []
  fn := fun _ => true
  calm := true
  pn := []
  xe := fun _ _ => False
structure GP.Good (G : GP) : Prop where
  tups : ∀ b o, G.D b = some o → (∃ xs, o = .tup xs) ∧ b < G.n0
  le : G.n0 ≤ G.L
  nc : ∀ x c, G.env.cells.lookup x ≠ some c
  lt : G.X.env.locals < G.n0
  ltc : ∀ x c, G.X.env.cells.lookup x = some c → c < G.n0
  s0 : G.X.s_0.heap.objs.size ≤ G.n0
/-- the list that waits, if there is one -/
def GP.H (G : GP) : Option (Addr × List V) → Hp
  | none => G.D
  | some (l, ws) => upd G.D l (.lst ws)
def GP.ls : Option (Addr × List V) → List Addr
  | none => []
  | some (l, _) => [l]
def GSt (G : GP) (lo : Option (Addr × List V)) (σ : St) (s : Shared) : Prop := ∃ s0, s0.heap.objs.size = G.n0 ∧ Inv (G.cx s0) [] σ (G.H lo) s ∧ ∀ l ∈ GP.ls lo, G.n0 ≤ l
def GAw (G : GP) (lo : Option (Addr × List V)) (σ : St) (s : Shared) (s0 : Shared) (pins : List (Addr × Obj)) : Prop :=
  s0.heap.objs.size = G.n0 ∧ Inv (G.cx s0) pins σ (G.H lo) s ∧ (∀ l ∈ GP.ls lo, G.n0 ≤ l) ∧ (∀ b o, b < G.n0 → s.heap.get? b = some o → s0.heap.get? b = some o) ∧
    ∀ b o, G.n0 ≤ b → b ≠ G.L → b ∉ GP.ls lo → s.heap.get? b = some o → (∀ v, o.data ≠ .cell v) → (b, o) ∈ pins
/-- what its run leaves alone -/
structure KeepG (G : GP) (ls : List Addr) (s s1 : Shared) : Prop where
  os : s1.os = s.os
  bare : PyProof.Rows.AllBare s1.gens
  low : ∀ b o, b < G.n0 → G.D b = none → b ∉ frs G.X.stack → s.heap.get? b = some o → s1.heap.get? b = some o
  slot : ∀ b o, b < G.n0 → b ∈ frs G.X.stack → s.heap.get? b = some o → ∃ sl, s1.heap.get? b = some { o with slots := sl }
  high : ∀ b o, G.n0 ≤ b → b ≠ G.L → b ∉ ls → s.heap.get? b = some o → (∀ v, o.data ≠ .cell v) → s1.heap.get? b = some o
  tups : ∀ b xs, G.D b = some (.tup xs) → ObjOk G.X.prog G.X.w G.D s1.heap b (.tup xs)
section
variable {G : GP} {s0 s s1 : Shared} {pins : List (Addr × Obj)} {σ σ1 : St} {H1 : Hp} {lo : Option (Addr × List V)}
theorem GP.H_none {b : Addr} (hb : G.D b = none) (hn : b ∉ GP.ls lo) : G.H lo b = none := by
  cases lo with
  | none => exact hb
  | some p =>
    obtain ⟨l, ws⟩ := p
    show upd G.D l (.lst ws) b = none
    rw [upd_ne fun z => hn (by rw [z]; exact List.mem_singleton.mpr rfl)]
    exact hb
theorem GAw.keep (gd : G.Good) (a : GAw G lo σ s s0 pins) (I1 : Inv (G.cx s0) pins σ1 H1 s1) : KeepG G (GP.ls lo) s s1 := by
  obtain ⟨hz, I, hl, lowS, pa⟩ := a
  have fr : ∀ b ∈ frs G.X.stack, G.D b = none := I.ok.frf
  refine ⟨I1.os.trans I.os.symm, I1.bare, fun b o hb hD hf e => ?_, fun b o hb hf e => ?_, fun b o hb hL hl e hc => ?_, fun b xs e => ?_⟩
  · exact I1.base.keep b o (lowS b o hb e) hD hf (by simp [GP.cx])
  · exact I1.base.slot b o (lowS b o hb e) (fr b hf) hf (by simp [GP.cx])
  · exact (I1.pin (b, o) (List.mem_append_right _ (pa b o hb hL hl e hc))).1
  · obtain ⟨hz, its, r, p⟩ := I1.hok b _ (I1.base.tups b xs e)
    exact ⟨hz, its, r, p⟩
/-- behind its run: what it tracks is told anew -/
theorem GAw.rest (gd : G.Good) {l : Addr} {ws : List V} (hz : s0.heap.objs.size = G.n0) (I1 : Inv (G.cx s0) pins σ1 H1 s1) (hl : H1 l = some (.lst ws)) (hn : G.n0 ≤ l) : GSt G (some (l, ws)) σ1 s1 := by
  have lD : G.D l = none := by
    cases q : G.D l with
    | none => rfl
    | some o => exact absurd ((gd.tups l o q).2) (Nat.not_lt.mpr hn)
  have lL : G.L ≠ l := fun z => by
    have q : H1 G.L = none := I1.free
    rw [z, hl] at q
    cases q
  have Hn : ∀ b, H1 b = none → G.H (some (l, ws)) b = none := fun b q => by
    have hb : b ≠ l := fun z => by rw [z, hl] at q; cases q
    show upd G.D l (.lst ws) b = none
    rw [upd_ne hb]
    cases e : G.D b with
    | none => rfl
    | some o =>
      obtain ⟨⟨xs, rfl⟩, _⟩ := gd.tups b o e
      rw [I1.base.tups b xs e] at q
      cases q
  refine ⟨s0, hz, ⟨I1.ok, I1.os, I1.bare, ⟨I1.base.keep, I1.base.slot, fun b o e n hx => Hn b (I1.base.free b o e n hx), I1.base.there, fun b xs e => ?_, fun b o u e => ?_, fun b ps e => ?_⟩, I1.loc, I1.cell, Hn _ I1.free, fun x c e => Hn _ (I1.freeC x c e),
    fun p hp => absurd (show p ∈ ([] : List (Addr × Obj)) from hp) (by simp), fun b o e => ?_, I1.len⟩, fun b hb => ?_⟩
  · show upd G.D l (.lst ws) b = _
    rw [upd_ne fun z => by rw [z] at e; rw [show G.D l = _ from e] at lD; cases lD]
    exact e
  · obtain ⟨⟨xs, z⟩, _⟩ := gd.tups b _ e
    cases z
  · obtain ⟨⟨xs, z⟩, _⟩ := gd.tups b _ e
    cases z
  · have e : upd G.D l (.lst ws) b = some o := e
    by_cases hb : b = l
    · subst hb
      rw [upd_same] at e
      cases e
      exact I1.hok b _ hl
    · rw [upd_ne hb] at e
      obtain ⟨⟨xs, rfl⟩, _⟩ := gd.tups b o e
      exact I1.hok b _ (I1.base.tups b xs e)
  · rw [List.mem_singleton.mp hb]
    exact hn
end

/-! ### woken again: told from the state at hand -/
def cutH (h : Heap) (n : Nat) : Heap := { h with objs := h.objs.extract 0 n }
theorem cutH_size {h : Heap} {n : Nat} (e : n ≤ h.objs.size) : (cutH h n).objs.size = n := by
  show (h.objs.extract 0 n).size = n
  rw [Array.size_extract]
  omega
theorem cutH_get {h : Heap} {n : Nat} {b : Addr} (hb : b < n) : (cutH h n).get? b = h.get? b := by
  have e : (cutH h n).objs[b]? = h.objs[b]? := by
    show (h.objs.extract 0 n)[b]? = _
    rw [Array.getElem?_extract]
    simp [hb]
    intro q
    rcases Nat.le_total n h.objs.size with y | y
    · rw [Nat.min_eq_left y] at q
      exact absurd q (Nat.not_le.mpr hb)
    · rw [Nat.min_eq_right y] at q
      exact q
  unfold Heap.get?
  rw [e]
theorem of_cutH {h : Heap} {n : Nat} {b : Addr} {o : Obj} (e : (cutH h n).get? b = some o) : h.get? b = some o := by
  by_cases hb : b < n
  · rw [cutH_get hb] at e
    exact e
  · have q := Heap.lt_size e
    have z : (cutH h n).objs.size ≤ n := by
      show (h.objs.extract 0 n).size ≤ n
      rw [Array.size_extract]
      omega
    exact absurd (Nat.lt_of_lt_of_le q z) hb
theorem funs_cut {h base : Heap} {n : Nat} : ∀ {l : List Env}, h.FunFrames base l → (∀ b ∈ frs l, b < n) → (cutH h n).FunFrames base l
  | [], _, _ => trivial
  | env :: r, hl, hb => by
    obtain ⟨hk, ⟨L, o, hf, hn, ho, hd⟩, hr⟩ := hl
    have e : frs (env :: r) = L :: frs r := by
      unfold frs
      rw [List.filterMap_cons, hf]
    rw [e] at hb
    exact ⟨hk, ⟨L, o, hf, hn, (cutH_get (hb L List.mem_cons_self)).trans ho, hd⟩, funs_cut hr fun b h => hb b (List.mem_cons_of_mem _ h)⟩
/-- all the things from n0 on, but the frame and the list -/
def pinsG (G : GP) (ls : List Addr) (h : Heap) : List (Addr × Obj) := (List.range h.objs.size).filterMap fun b => if b < G.n0 ∨ b = G.L ∨ b ∈ ls then none else match h.get? b with
  | some o => match o.data with
    | .cell _ => none
    | _ => some (b, o)
  | none => none
theorem of_pinsG {G : GP} {ls : List Addr} {h : Heap} {p : Addr × Obj} (q : p ∈ pinsG G ls h) : G.n0 ≤ p.1 ∧ p.1 ≠ G.L ∧ p.1 ∉ ls ∧ h.get? p.1 = some p.2 ∧ ∀ v, p.2.data ≠ .cell v := by
  obtain ⟨b, _, e⟩ := List.mem_filterMap.mp q
  split at e
  · cases e
  · rename_i hn
    split at e
    · rename_i o ho
      split at e
      · cases e
      · rename_i hd
        cases e
        exact ⟨Nat.le_of_not_lt fun z => hn (.inl z), fun z => hn (.inr (.inl z)), fun z => hn (.inr (.inr z)), ho, fun v z => hd v z⟩
    · cases e
theorem mem_pinsG {G : GP} {ls : List Addr} {h : Heap} {b : Addr} {o : Obj} (h1 : G.n0 ≤ b) (h2 : b ≠ G.L) (h3 : b ∉ ls) (e : h.get? b = some o) (d : ∀ v, o.data ≠ .cell v) : (b, o) ∈ pinsG G ls h := by
  refine List.mem_filterMap.mpr ⟨b, List.mem_range.mpr (Heap.lt_size e), ?_⟩
  rw [if_neg (fun z => z.elim (fun z => absurd z (Nat.not_lt.mpr h1)) fun z => z.elim h2 h3), e]
  dsimp only
  split
  · rename_i v z
    exact absurd z (d v)
  · rfl
/-- what is true of the consumer's things -/
structure TX (G : GP) (H : Hp) : Prop where
  sub : ∀ b xs, G.D b = some (.tup xs) → H b = some (.tup xs)
  out : ∀ b o, H b = some o → (b < G.n0 ∧ (G.D b = none ∨ G.D b = some o)) ∨ (G.n0 ≤ b ∧ ∃ xs, o = .tup xs)
section
variable {G : GP} {s0 s s1 : Shared} {pins : List (Addr × Obj)} {σ σ1 : St} {H : Hp} {lo : Option (Addr × List V)}
theorem GSt.wake (gd : G.Good) (a : GSt G lo σ1 s) (I : Inv G.X pins σ H s1) (tx : TX G H) (kL : ∀ o, s.heap.get? G.L = some o → s1.heap.get? G.L = some o) (kl : ∀ l ∈ GP.ls lo, ∀ o, s.heap.get? l = some o → s1.heap.get? l = some o) :
    ∃ s0 pins', GAw G lo σ1 s1 s0 pins' := by
  obtain ⟨s0, hz, J, hl⟩ := a
  have hsz : G.n0 ≤ s1.heap.objs.size := by
    obtain ⟨m, ⟨o, es, ep, ho, _⟩, _⟩ := J.loc
    exact Nat.le_trans gd.le (Nat.le_of_lt (Heap.lt_size (kL o ho)))
  have hz' : ({ s1 with heap := cutH s1.heap G.n0 } : Shared).heap.objs.size = G.n0 := cutH_size hsz
  have Dn : ∀ b, H b = none → G.D b = none := fun b q => by
    cases e : G.D b with
    | none => rfl
    | some o =>
      obtain ⟨⟨xs, rfl⟩, _⟩ := gd.tups b o e
      rw [tx.sub b xs e] at q
      cases q
  have Dlo : ∀ b, G.n0 ≤ b → G.D b = none := fun b hb => by
    cases e : G.D b with
    | none => rfl
    | some o => exact absurd (gd.tups b o e).2 (Nat.not_lt.mpr hb)
  have frl : ∀ b ∈ frs G.X.stack, b < G.n0 := fun b hb => by
    rcases List.mem_cons.mp (I.stkSub b hb) with z | z
    · rw [z]
      exact gd.lt
    · obtain ⟨_, o, ho, _⟩ := I.ok.funs.mem z
      exact Nat.lt_of_lt_of_le (Heap.lt_size ho) gd.s0
  have ncell : ∀ x c, (G.cx s0).env.cells.lookup x = some c → False := fun x c e => gd.nc x c e
  have hL : (G.cx s0).env.locals = G.L := rfl
  refine ⟨{ s1 with heap := cutH s1.heap G.n0 }, pinsG G (GP.ls lo) s1.heap, hz', ⟨⟨J.ok.mod, J.ok.kind, rfl, rfl, Nat.le_trans (Nat.le_of_eq hz') gd.le, fun x y c e => absurd e (gd.nc x c), J.ok.has, fun x c _ e => absurd e (gd.nc x c), J.ok.hd, J.ok.frames, J.ok.stk, fun b hb => absurd hb (by simp [GP.cx]),
    fun b o e => ?_, Nat.le_trans (Nat.le_trans I.ok.bsz gd.s0) (Nat.le_of_eq hz'.symm), fun b o e => by simp [GP.cx], fun b hb => absurd hb (by simp [GP.cx]), funs_cut I.stack frl, J.ok.frf⟩,
    rfl, I.bare, ⟨fun b o e _ _ _ => of_cutH e, fun b o e _ _ _ => ⟨o.slots, of_cutH e⟩, fun b o e n _ => GP.H_none n fun z => ?_, fun b o e _ => ⟨o, of_cutH e⟩, fun b xs e => ?_, fun b o u e => ?_, fun b ps e => ?_⟩, ?_, fun x c e => absurd e (gd.nc x c), J.free, fun x c e => absurd e (gd.nc x c), fun p hp => ?_, fun b o e => ?_, J.len⟩,
    hl, fun b o hb e => (cutH_get hb).trans e, fun b o h1 h2 h3 e d => mem_pinsG h1 h2 h3 e d⟩
  · have q := I.bs b o e
    have hb : b < G.n0 := Nat.lt_of_lt_of_le (Heap.lt_size e) (Nat.le_trans I.ok.bsz gd.s0)
    exact ⟨(cutH_get hb).trans q.1, Dn b q.2⟩
  · exact absurd (hl b z) (Nat.not_le.mpr (Nat.lt_of_lt_of_le (Heap.lt_size e) (Nat.le_of_eq hz')))
  · have hb : b < G.n0 := (gd.tups b _ e).2
    cases lo with
    | none => exact e
    | some p =>
      obtain ⟨l, ws⟩ := p
      show upd G.D l (.lst ws) b = _
      rw [upd_ne fun z => absurd (hl l (List.mem_singleton.mpr rfl)) (by rw [← z]; exact Nat.not_le.mpr hb)]
      exact e
  · obtain ⟨⟨xs, z⟩, _⟩ := gd.tups b _ e
    cases z
  · obtain ⟨⟨xs, z⟩, _⟩ := gd.tups b _ e
    cases z
  · obtain ⟨m, ⟨o, es, ep, ho, r⟩, q⟩ := J.loc
    refine ⟨m, ⟨o, es, ep, kL o ho, r⟩, fun i x v e1 e2 e3 => ?_⟩
    obtain ⟨u, r1, lk⟩ := q i x v e1 e2 e3
    refine ⟨u, r1, ?_⟩
    rcases lk with lk | ⟨_, c, e, _⟩
    · exact .inl lk
    · exact absurd e (gd.nc x c)
  · have hp : p ∈ pinsG G (GP.ls lo) s1.heap := hp
    obtain ⟨h1, h2, h3, e, d⟩ := of_pinsG hp
    exact ⟨e, GP.H_none (Dlo _ h1) h3, h2, fun z => absurd (frl _ z) (Nat.not_lt.mpr h1), d⟩
  · have old : ∀ xs, G.D b = some (.tup xs) → ObjOk G.X.prog G.X.w (G.H lo) s1.heap b (.tup xs) := fun xs e => by
      obtain ⟨hz, its, r, p⟩ := I.hok b _ (tx.sub b xs e)
      exact ⟨hz, its, r, p⟩
    cases lo with
    | none =>
      obtain ⟨⟨xs, rfl⟩, _⟩ := gd.tups b o e
      exact old xs e
    | some p =>
      obtain ⟨l, ws⟩ := p
      by_cases hb : b = l
      · subst hb
        have e' : upd G.D b (.lst ws) b = some o := e
        rw [upd_same] at e'
        cases e'
        obtain ⟨hz, its, n, r, p⟩ := J.hok b (.lst ws) upd_same
        exact ⟨hz, its, n, r, kl b (List.mem_singleton.mpr rfl) _ p⟩
      · have e' : upd G.D l (.lst ws) b = some o := e
        rw [upd_ne hb] at e'
        obtain ⟨⟨xs, rfl⟩, _⟩ := gd.tups b o e'
        exact old xs e'
/-- behind its run the consumer stands as it stood -/
theorem KeepG.back {ls : List Addr} (gd : G.Good) (I : Inv G.X pins σ H s) (tx : TX G H) (k : KeepG G ls s s1) (hn : ∀ l ∈ ls, H l = none) (hL : H G.L = none) (hp : ∀ p ∈ G.X.pn ++ pins, p.1 ≠ G.L ∧ p.1 ∉ ls) : Inv G.X pins σ H s1 := by
  have Dn : ∀ b, H b = none → G.D b = none := fun b q => by
    cases e : G.D b with
    | none => rfl
    | some o =>
      obtain ⟨⟨xs, rfl⟩, _⟩ := gd.tups b o e
      rw [tx.sub b xs e] at q
      cases q
  have frl : ∀ b ∈ frs G.X.stack, b < G.n0 := fun b hb => by
    rcases List.mem_cons.mp (I.stkSub b hb) with z | z
    · rw [z]
      exact gd.lt
    · obtain ⟨_, o, ho, _⟩ := I.ok.funs.mem z
      exact Nat.lt_of_lt_of_le (Heap.lt_size ho) gd.s0
  have any : ∀ b o, b < G.n0 → G.D b = none → s.heap.get? b = some o → ∃ sl, s1.heap.get? b = some { o with slots := sl } := fun b o hb hD e => by
    by_cases hf : b ∈ frs G.X.stack
    · exact k.slot b o hb hf e
    · exact ⟨o.slots, k.low b o hb hD hf e⟩
  have nf : ∀ b, b ≠ G.X.env.locals → b ∉ G.X.fs → b ∉ frs G.X.stack := fun b h1 h2 z => by
    rcases List.mem_cons.mp (I.stkSub b z) with y | y
    · exact h1 y
    · exact h2 y
  have lt0 : ∀ b o, G.X.s_0.heap.get? b = some o → b < G.n0 := fun b o e => Nat.lt_of_lt_of_le (Heap.lt_size e) gd.s0
  have ncl : ∀ b o, G.X.s_0.heap.get? b = some o → b ≠ G.X.env.locals := fun b o e => Nat.ne_of_lt (Nat.lt_of_lt_of_le (Heap.lt_size e) I.ok.above)
  have cellK : ∀ x c v, G.X.env.cells.lookup x = some c → s.heap.IsCell c v → s1.heap.IsCell c v := fun x c v e ⟨o, ho, hd⟩ => by
    obtain ⟨sl, q⟩ := any c o (gd.ltc x c e) (Dn c (I.freeC x c e)) ho
    exact ⟨_, q, hd⟩
  refine ⟨I.ok, k.os.trans I.os, k.bare, ⟨fun b o e n hb hx => ?_, fun b o e n hb hx => ?_, I.base.free, fun b o e hx => ?_, I.base.tups, I.base.frzs, I.base.tbls⟩, ?_, fun x c e => ?_, I.free, I.freeC, fun p h => ?_, fun b o e => ?_, I.len⟩
  · exact k.low b o (lt0 b o e) (Dn b (I.base.free b o e n hx)) (nf b (ncl b o e) hb) (I.base.keep b o e n hb hx)
  · obtain ⟨sl, e1⟩ := I.base.slot b o e n hb hx
    obtain ⟨sl2, e2⟩ := any b _ (lt0 b o e) (Dn b (I.base.free b o e n hx)) e1
    exact ⟨sl2, e2⟩
  · obtain ⟨o', e1⟩ := I.base.there b o e hx
    cases q : G.D b with
    | none =>
      obtain ⟨sl, e2⟩ := any b o' (lt0 b o e) q e1
      exact ⟨_, e2⟩
    | some u =>
      obtain ⟨⟨xs, rfl⟩, _⟩ := gd.tups b u q
      obtain ⟨_, _, _, o2, e2, _⟩ := k.tups b xs q
      exact ⟨o2, e2⟩
  · obtain ⟨m, ⟨o, es, ep, ho, r⟩, q⟩ := I.loc
    obtain ⟨sl, e2⟩ := any _ o gd.lt (Dn _ I.free) ho
    refine ⟨m, ⟨_, es, ep, e2, r⟩, fun i x v e1 e3 e4 => ?_⟩
    obtain ⟨u, r1, lk⟩ := q i x v e1 e3 e4
    refine ⟨u, r1, ?_⟩
    rcases lk with lk | ⟨z, c, e, y⟩
    · exact .inl lk
    · exact .inr ⟨z, c, e, cellK x c _ e y⟩
  · obtain ⟨v, y⟩ := I.cell x c e
    exact ⟨v, cellK x c v e y⟩
  · obtain ⟨e, n, ne, nfs, d⟩ := I.pin p h
    refine ⟨?_, n, ne, nfs, d⟩
    by_cases hb : p.1 < G.n0
    · exact k.low p.1 p.2 hb (Dn _ n) (nf _ ne nfs) e
    · exact k.high p.1 p.2 (Nat.le_of_not_lt hb) (hp p h).1 (hp p h).2 e d
  · have x := I.hok b o e
    have tupK : ∀ (c : Addr) (u : Obj), H c ≠ none → (∀ xs, H c ≠ some (.tup xs)) → s.heap.get? c = some u → s1.heap.get? c = some u := fun c u h1 h2 e2 => by
      cases q : H c with
      | none => exact absurd q h1
      | some y =>
        rcases tx.out c y q with ⟨hc, hd⟩ | ⟨_, xs, z⟩
        · have hD : G.D c = none := by
            rcases hd with hd | hd
            · exact hd
            · obtain ⟨⟨xs, rfl⟩, _⟩ := gd.tups c y hd
              exact absurd q (h2 xs)
          refine k.low c u hc hD (fun z => ?_) e2
          have q2 := I.stkFree c z
          rw [q] at q2
          cases q2
        · rw [z] at q
          exact absurd q (h2 xs)
    by_cases ht : ∃ xs, o = .tup xs
    · obtain ⟨xs, rfl⟩ := ht
      rcases tx.out b _ e with ⟨hb, hd⟩ | ⟨hb, _⟩
      · rcases hd with hd | hd
        · obtain ⟨z, its, r, ob, eb, hc, n, he⟩ := x
          have hf : b ∉ frs G.X.stack := fun z => by
            have q2 := I.stkFree b z
            rw [e] at q2
            cases q2
          exact ⟨z, its, r, ob, k.low b ob hb hd hf eb, hc, n, he⟩
        · obtain ⟨z, its, r, p⟩ := k.tups b xs hd
          exact ⟨z, its, r, p⟩
      · obtain ⟨z, its, r, ob, eb, hc, n, he⟩ := x
        refine ⟨z, its, r, ob, k.high b ob hb (fun z => ?_) (fun z => ?_) eb (fun v q => ?_), hc, n, he⟩
        · rw [z, hL] at e
          cases e
        · rw [hn b z] at e
          cases e
        · rw [he] at q
          cases q
    · refine x.stay (fun c u hc e2 => ?_) (fun _ y => y) fun _ _ y => y
      rcases hc with rfl | hc
      · exact tupK c u (by rw [e]; simp) (fun xs q => ht ⟨xs, by rw [e] at q; exact Option.some.inj q⟩) e2
      · exact tupK c u (by rw [hc]; simp) (fun xs q => by rw [hc] at q; cases q) e2
end

/-! ### a walk: while waiting: found = waiting.pop(); yield found; waiting.extend(..) -/
section
variable {X : Cx} {es : List Expr} {t : TA} {pos : Pos}
/-- a list of written items, behind the frame -/
theorem pe_lstN (h : PA X es t) : PE X (.List es pos) (fun σ H Q => t σ H fun xs H1 => xs.length ≤ sizeLine ∧ ∀ p, H1 p = none → X.env.locals < p → Q (.ref p) (upd H1 p (.lst xs))) := by
  refine ⟨fun pins s σ H Q I hq => wpAny_List_spliced (thn (h.run pos pins s σ H _ I hq) fun us s1 ⟨xs, H1, I1, r, z, q⟩ => ⟨by rw [← r.length]; exact z, ?_⟩)⟩
  have hf := I1.hok.fresh (Nat.le_refl s1.heap.objs.size)
  exact ⟨.ref s1.heap.objs.size, upd H1 s1.heap.objs.size (.lst xs), I1.laid (a := s1.heap.objs.size) (t' := s1.toks) (fun b u e => Heap.get?_push_of_some _ e) (Nat.le_refl _) ⟨z, us, 0, r, Heap.get?_push_size _ rfl⟩, rfl, q _ hf I1.lt⟩
end
/-- lists that the generator made -/
def LsOk (G : GP) (ls : List Addr) (s : Shared) : Prop := ∀ l ∈ ls, G.n0 ≤ l ∧ l ≠ G.L ∧ ∃ o, s.heap.get? l = some o ∧ o.cls = .type "list"
/-- how a walk's own statements run -/
structure WBody (G : GP) {δ : Type} (T : V → δ → Prop) (kids : δ → List δ) (v : V) (st1 : Stmt) (test : Expr) (sA : Stmt) (nm : Expr) (sB : Stmt) : Prop where
  f1 : ∀ (s0 : Shared) (pins : List (Addr × Obj)) (H : Hp) (s : Shared), Inv (G.cx s0) pins [some v, none, none] H s →
    wpAny (model G.X.prog G.X.w) (G.cx s0).A (exec st1 G.env) (fun fl s' => fl = .next ∧ ∃ l, G.n0 ≤ l ∧ H l = none ∧ Inv (G.cx s0) pins [some v, some (.ref l), none] (upd H l (.lst [v])) s') (fun _ _ => False) s
  f2 : ∀ (s0 : Shared) (pins : List (Addr × Obj)) (l : Addr) (y : Option V) (ws : List V) (H : Hp) (s : Shared), Inv (G.cx s0) pins [some v, some (.ref l), y] H s → H l = some (.lst ws) →
    wpAny (model G.X.prog G.X.w) (G.cx s0).A (isTrue test G.env (eval test G.env)) (fun b s' => b = !ws.isEmpty ∧ Inv (G.cx s0) pins [some v, some (.ref l), y] H s') (fun _ _ => False) s
  f3 : ∀ (s0 : Shared) (pins : List (Addr × Obj)) (l : Addr) (y : Option V) (ws : List V) (x : V) (H : Hp) (s : Shared), Inv (G.cx s0) pins [some v, some (.ref l), y] H s → H l = some (.lst (ws ++ [x])) →
    wpAny (model G.X.prog G.X.w) (G.cx s0).A (exec sA G.env) (fun fl s' => fl = .next ∧ Inv (G.cx s0) pins [some v, some (.ref l), some x] (upd H l (.lst ws)) s') (fun _ _ => False) s
  f4 : ∀ (s0 : Shared) (pins : List (Addr × Obj)) (l : Addr) (x : V) (H : Hp) (s : Shared), Inv (G.cx s0) pins [some v, some (.ref l), some x] H s →
    wpAny (model G.X.prog G.X.w) (G.cx s0).A (eval nm G.env) (fun u s' => RelV x u ∧ Inv (G.cx s0) pins [some v, some (.ref l), some x] H s') (fun _ _ => False) s
  f5 : ∀ (s0 : Shared) (pins : List (Addr × Obj)) (l : Addr) (x : V) (d : δ) (ws : List V) (H : Hp) (s : Shared), Inv (G.cx s0) pins [some v, some (.ref l), some x] H s → H l = some (.lst ws) → T x d →
    (∀ b xs, G.D b = some (.tup xs) → H b = some (.tup xs)) → ws.length + (kids d).length ≤ sizeLine →
    wpAny (model G.X.prog G.X.w) (G.cx s0).A (exec sB G.env) (fun fl s' => fl = .next ∧ ∃ H' ys, Paired T ys (kids d) ∧ Inv (G.cx s0) pins [some v, some (.ref l), some x] H' s' ∧ H' l = some (.lst (ws ++ ys.reverse))) (fun _ _ => False) s
theorem paired_len {α β : Type} {R : α → β → Prop} {xs : List α} {ys : List β} (h : Paired R xs ys) : xs.length = ys.length := Paired.length h
theorem paired_app {α β : Type} {R : α → β → Prop} : ∀ {a c : List α} {b d : List β}, Paired R a b → Paired R c d → Paired R (a ++ c) (b ++ d)
  | _, _, _, _, .nil, s => s
  | _, _, _, _, .cons r t, s => .cons r (paired_app t s)
theorem paired_rev {α β : Type} {R : α → β → Prop} : ∀ {a : List α} {b : List β}, Paired R a b → Paired R a.reverse b.reverse
  | _, _, .nil => .nil
  | _, _, .cons r t => by
    rw [List.reverse_cons, List.reverse_cons]
    exact paired_app (paired_rev t) (.cons r .nil)
theorem paired_snoc {α β : Type} {R : α → β → Prop} {a : List α} {x : α} {b : List β} (h : Paired R (a ++ [x]) b) : ∃ b' y, b = b' ++ [y] ∧ Paired R a b' ∧ R x y := by
  have q := paired_rev h
  rw [List.reverse_append] at q
  cases hb : b.reverse with
  | nil =>
    rw [hb] at q
    cases q
  | cons y r =>
    rw [hb] at q
    cases q with
    | cons q1 q2 =>
      refine ⟨r.reverse, y, ?_, ?_, q1⟩
      · rw [← List.reverse_reverse b, hb, List.reverse_cons]
      · have q2 : Paired R a.reverse r := q2
        have q3 := paired_rev q2
        rw [List.reverse_reverse] at q3
        exact q3
/-- what a stack will hand out -/
def itemsW {δ : Type} (pre : δ → List δ) (ds : List δ) : List δ := ds.reverse.flatMap pre
theorem itemsW_pop {δ : Type} {pre : δ → List δ} {kids : δ → List δ} (hp : ∀ d, pre d = d :: (kids d).flatMap pre) (ds : List δ) (d : δ) : itemsW pre (ds ++ [d]) = d :: itemsW pre (ds ++ (kids d).reverse) := by
  unfold itemsW
  rw [List.reverse_append, List.reverse_append, List.reverse_reverse, List.flatMap_append, List.flatMap_append]
  simp [hp d]
theorem itemsW_len {δ : Type} {pre : δ → List δ} {kids : δ → List δ} (hp : ∀ d, pre d = d :: (kids d).flatMap pre) (ds : List δ) : ds.length ≤ (itemsW pre ds).length := by
  unfold itemsW
  rw [← List.length_reverse]
  generalize ds.reverse = r
  induction r with
  | nil => exact Nat.zero_le _
  | cons d r ih =>
    rw [List.flatMap_cons, List.length_append, List.length_cons, hp d, List.length_cons]
    omega
section
variable (G : GP) {δ : Type} (T : V → δ → Prop) (kids pre : δ → List δ) (v : V) (L0 : List δ)
/-- an item is handed out -/
def WY : Protocol := fun n s₀ u s kap => ∃ (l : Addr) (ws : List V) (x : V) (ds : List δ) (d : δ) (ls : List Addr), RelV x u ∧ Paired T ws ds ∧ T x d ∧ n + 1 ≤ L0.length ∧ d :: itemsW pre (ds ++ (kids d).reverse) = L0.drop (L0.length - (n + 1)) ∧
  LsOk G ls s₀ ∧ KeepG G ls s₀ s ∧ G.n0 ≤ l ∧ GSt G (some (l, ws)) [some v, some (.ref l), some x] s ∧ ∀ s2 s0 pins, GAw G (some (l, ws)) [some v, some (.ref l), some x] s2 s0 pins → kap (.send .none) s2
/-- the end -/
def WR : GenEnd := fun n s₀ r s => r = .ok (.ret .none) ∧ n = 0 ∧ ∃ ls, LsOk G ls s₀ ∧ KeepG G ls s₀ s
end
section
variable {G : GP} {δ : Type} {T : V → δ → Prop} {kids pre : δ → List δ} {v : V} {L0 : List δ} {st1 sA sB : Stmt} {test nm : Expr} {wp yp ep : Pos}
theorem lsOk_of {lo : Option (Addr × List V)} {σ : St} {s s0 : Shared} {pins : List (Addr × Obj)} (gd : G.Good) (a : GAw G lo σ s s0 pins) : LsOk G (GP.ls lo) s := by
  obtain ⟨hz, I, hl, _, _⟩ := a
  cases lo with
  | none => exact fun l h => absurd h (by simp [GP.ls])
  | some p =>
    obtain ⟨l, ws⟩ := p
    intro b hb
    have e : b = l := List.mem_singleton.mp hb
    subst e
    refine ⟨hl b hb, fun z => ?_, ?_⟩
    · have q : upd G.D b (.lst ws) G.L = none := I.free
      rw [z, upd_same] at q
      cases q
    · obtain ⟨_, its, n, _, p⟩ := I.hok b (.lst ws) upd_same
      exact ⟨_, p, rfl⟩
theorem walk_seg (gd : G.Good) (hp : ∀ d, pre d = d :: (kids d).flatMap pre) (B : WBody G T kids v st1 test sA nm sB) (hco : G.env.scope.isCoroutine = false) (hi : interactive G.env = false) (hz : L0.length ≤ sizeLine) (hL : L0 = itemsW pre [d0]) (hv : T v d0) :
    ∀ (s s0 : Shared) (pins : List (Addr × Obj)), GAw G none [some v, none, none] s s0 pins →
      Seg (model G.X.prog G.X.w) G.Aw (WR G) (WY G T kids pre v L0) L0.length s (.func [st1, .While test [sA, .Expr (.Yield (some nm) yp) ep, sB] [] wp] G.env) ((model G.X.prog G.X.w).den (.func [st1, .While test [sA, .Expr (.Yield (some nm) yp) ep, sB] [] wp] G.env)) [] s := by
  have over : ∀ {k : Result → Sem PySem.Fin} {g : Bool} {lv kp : List Value} {p : Pos}, G.Aw.over (.whileLoop test [sA, .Expr (.Yield (some nm) yp) ep, sB] [] G.env) (.ret k none g lv (.func [st1, .While test [sA, .Expr (.Yield (some nm) yp) ep, sB] [] wp] G.env) p kp :: []) = G.Aw.deeper G.env :=
    fun {k g lv kp p} => (GenW.over_loop rfl rfl).trans GenW.over_func
  -- the loop, behind a start
  have loop : ∀ (k : Result → Sem PySem.Fin) (lv : List Value) (p : Pos), (∀ s₀ s, WR G 0 s₀ (.ok (.ret .none)) s → Seg (model G.X.prog G.X.w) G.Aw (WR G) (WY G T kids pre v L0) 0 s₀ (.func [st1, .While test [sA, .Expr (.Yield (some nm) yp) ep, sB] [] wp] G.env) (k (.ok .next)) [] s) →
      ∀ (n : Nat) (s₀ s s0 : Shared) (pins : List (Addr × Obj)) (lo : Option (Addr × List V)) (σ₀ : St) (l : Addr) (y : Option V) (ws : List V) (ds : List δ) (H : Hp), GAw G lo σ₀ s₀ s0 pins → G.n0 ≤ l → Inv (G.cx s0) pins [some v, some (.ref l), y] H s → H l = some (.lst ws) →
        Paired T ws ds → n ≤ L0.length → itemsW pre ds = L0.drop (L0.length - n) →
        Seg (model G.X.prog G.X.w) G.Aw (WR G) (WY G T kids pre v L0) n s₀ (.whileLoop test [sA, .Expr (.Yield (some nm) yp) ep, sB] [] G.env) ((model G.X.prog G.X.w).den (.whileLoop test [sA, .Expr (.Yield (some nm) yp) ep, sB] [] G.env))
          (.ret k none false lv (.func [st1, .While test [sA, .Expr (.Yield (some nm) yp) ep, sB] [] wp] G.env) p [] :: []) s := by
    intro k lv p hk n
    induction n with
    | zero =>
      intro s₀ s s0 pins lo σ₀ l y ws ds H ga hn0 I hl pr hn e
      refine seg_whileLoop ?_
      rw [over]
      refine wpAny_mono (B.f2 s0 pins l y ws H s I hl) (fun b s' ⟨eb, I1⟩ => ?_) fun _ _ z => z.elim
      have e0 : itemsW pre ds = [] := by rw [e]; simp
      have d0 : ds = [] := by
        have := itemsW_len hp ds
        rw [e0] at this
        exact List.eq_nil_of_length_eq_zero (Nat.le_zero.mp this)
      have w0 : ws = [] := by
        have := paired_len pr
        rw [d0] at this
        exact List.eq_nil_of_length_eq_zero this
      subst w0
      have eb : b = false := eb
      subst eb
      rw [if_neg Bool.false_ne_true]
      refine seg_execs_nil (seg_leaf (.ok .next) (hk s₀ s' ⟨rfl, rfl, GP.ls lo, lsOk_of gd ga, ga.keep gd I1⟩))
    | succ m ih =>
      intro s₀ s s0 pins lo σ₀ l y ws ds H ga hn0 I hl pr hn e
      refine seg_whileLoop ?_
      rw [over]
      refine wpAny_mono (B.f2 s0 pins l y ws H s I hl) (fun b s' ⟨eb, I1⟩ => ?_) fun _ _ z => z.elim
      have hne : ds ≠ [] := fun z => by
        rw [z] at e
        have := congrArg List.length e
        rw [List.length_drop] at this
        simp [itemsW] at this
        omega
      obtain ⟨ws', x, rfl⟩ : ∃ w x, ws = w ++ [x] := by
        have hw : ws ≠ [] := fun z => by
          have := paired_len pr
          rw [z] at this
          exact hne (List.eq_nil_of_length_eq_zero this.symm)
        exact ⟨ws.dropLast, ws.getLast hw, (List.dropLast_concat_getLast hw).symm⟩
      obtain ⟨ds', d, rfl, pr', tx⟩ := paired_snoc pr
      have eb : b = true := by rw [eb]; simp
      subst eb
      rw [if_pos rfl]
      refine seg_execs_cons (seg_wrap ?_)
      rw [over]
      refine wpAny_mono (B.f3 s0 pins l y ws' x H s' I1 hl) (fun fl s2 ⟨ef, I2⟩ => ?_) fun _ _ z => z.elim
      subst ef
      refine seg_execs_cons (seg_Expr_Yield rfl rfl rfl ?_ hco hi)
      rw [over]
      refine wpAny_mono (B.f4 s0 pins l x _ s2 I2) (fun u s3 ⟨ru, I3⟩ => ?_) fun _ _ z => z.elim
      intro kap hkap
      rw [itemsW_pop hp] at e
      refine ⟨l, ws', x, ds', d, GP.ls lo, ru, pr', tx, hn, e, lsOk_of gd ga, ga.keep gd I3, hn0, GAw.rest gd ga.1 I3 upd_same hn0, fun s4 t0 pins4 a4 => hkap .none s4 ?_⟩
      refine seg_execs_cons (seg_wrap ?_)
      rw [over]
      have I4 := a4.2.1
      have len : ws'.length + (kids d).length ≤ sizeLine := by
        have h1 := itemsW_len hp (ds' ++ (kids d).reverse)
        have h2 := congrArg List.length e
        rw [List.length_drop, List.length_cons] at h2
        rw [List.length_append, List.length_reverse] at h1
        have h3 := paired_len pr'
        omega
      refine wpAny_mono (B.f5 t0 pins4 l x d ws' _ s4 I4 upd_same tx (fun b xs q => ?_) len) (fun fl s5 ⟨ef, H5, ys, py, I5, hl5⟩ => ?_) fun _ _ z => z.elim
      · have hb : b ≠ l := fun z => absurd (gd.tups b _ q).2 (by rw [z]; exact Nat.not_lt.mpr hn0)
        show upd G.D l (.lst ws') b = _
        rw [upd_ne hb]
        exact q
      · subst ef
        refine seg_execs_nil (seg_again rfl ?_)
        refine ih s4 s5 t0 pins4 (some (l, ws')) _ l (some x) (ws' ++ ys.reverse) (ds' ++ (kids d).reverse) H5 a4 hn0 I5 hl5 (paired_app pr' (paired_rev py)) (by omega) ?_
        have h2 := congrArg List.tail e
        rw [List.tail_cons, List.tail_drop] at h2
        rw [h2]
        congr 1
        omega
  intro s s0 pins ga
  refine seg_func ?_
  refine seg_execs_cons (seg_wrap ?_)
  rw [GenW.over_func]
  refine wpAny_mono (B.f1 s0 pins G.D s ga.2.1) (fun fl s1 ⟨ef, l, hn0, hD, I1⟩ => ?_) fun _ _ z => z.elim
  subst ef
  refine seg_execs_cons (seg_While fun p => ?_)
  refine loop _ _ p (fun s₀ s' hr => ?_) L0.length s s1 s0 pins none _ l none [v] [d0] _ ga hn0 I1 upd_same (.cons hv .nil) (Nat.le_refl _) (by rw [Nat.sub_self, List.drop_zero]; exact hL.symm)
  exact seg_execs_nil (env := G.env) (seg_end (.ok (.ret .none)) hr)
end

/-! ### next of an enumerate over a generator -/
/-- it may be woken again, if there is still something due -/
def goesN (M : Model) (A : Around) (R : GenEnd) (Y : Protocol) : Nat → GenState → Resume → Shared → Prop
  | 0, _, _, _ => False
  | m + 1, gs, r, s => gs.Goes M A R Y m r s
theorem resume_asleep {M : Model} {A : Around} {R : GenEnd} {Y : Protocol} {n : Nat} {E : Value → Shared → Prop} {s : Shared} {g : Nat} {gs : GenState} {r : Resume} {l : List Value} {α : Type} {k : GenResult → Sem α} {Q : α → Shared → Prop} (hg : s.gens[g]? = some gs)
    (hgo : gs.Goes M A R Y n r (s.setGen g .running)) (hR : ∀ x s₁, R n (s.setGen g .running) x s₁ → wpAny M A (k (End.ret x).result) Q E (s₁.setGen g .finished))
    (hY : ∀ v s₁ gs', sleeps gs' → gs'.bare = true → Y (n - 1) (s.setGen g .running) v s₁ (goesN M A R Y n gs') → wpAny M A (k (.yielded v)) Q E (s₁.setGen g gs')) : wpAny M A (.resume g r l k) Q E s := by
  intro Γ p hΓ
  rw [Sem.wp_resume]
  have fin : ∀ e₁ s₁, SegEnd R Y n (Seg.next M A R Y n) (s.setGen g .running) e₁ s₁ → e₁.quiet = true ∧ Sem.wp M Γ (k e₁.result) (fun a _ s' => Q a s') (fun e _ s' => E e s') p (s₁.setGen g e₁.genState) := fun e₁ s₁ he => by
    cases e₁ with
    | ret x => exact ⟨rfl, hR x s₁ he Γ p hΓ⟩
    | susp v g₀ l₀ k₀ c₀ p₀ fs₀ =>
      refine ⟨he.1, hY v s₁ (End.susp v g₀ l₀ k₀ c₀ p₀ fs₀).genState trivial (End.bare_of_quiet he.1) ?_ Γ p hΓ⟩
      cases n with
      | zero => exact he.2
      | succ m => exact he.2
  cases gs with
  | fresh c =>
    obtain ⟨rfl, hs⟩ := hgo
    obtain ⟨e₁, s₁, hr, he⟩ := seg_iff.mp hs (Γ.wake c p) p rfl (hΓ.wake c p)
    exact ⟨_, _, by unfold Wakes; rw [hg]; exact ⟨e₁, s₁, hr, (fin e₁ s₁ he).1, rfl, rfl⟩, (fin e₁ s₁ he).2⟩
  | suspended k₀ l₀ c₀ p₀ fs₀ cl =>
    obtain ⟨e₁, s₁, hr, he⟩ := seg_iff.mp hgo (Γ.wake c₀ p) p₀ rfl (hΓ.wake c₀ p)
    exact ⟨_, _, by unfold Wakes; rw [hg]; exact ⟨e₁, s₁, hr, (fin e₁ s₁ he).1, rfl, rfl⟩, (fin e₁ s₁ he).2⟩
  | running => exact hgo.elim
  | finished => exact hgo.elim
section
variable {P : Program} {w : World} {A : Around} {E : Value → Shared → Prop} {s : Shared}
theorem nextOf_gen {a : Addr} {g n : Nat} {gs : GenState} {R : GenEnd} {Y : Protocol} {Q : Value → Shared → Prop} (hh : A.handled = none) (hl : s.heap.NoLimit) (hroom : A.depth < recursionLimit) (hg : s.heap.IsGen a g) (hgs : s.gens[g]? = some gs)
    (hgo : gs.Goes (model P w) A.in1 R Y n (.send .none) (s.setGen g .running))
    (hY : ∀ v s₁ gs', sleeps gs' → gs'.bare = true → Y (n - 1) (s.setGen g .running) v s₁ (goesN (model P w) A.in1 R Y n gs') → Q v (s₁.setGen g gs'))
    (hR : ∀ r s₁, R n (s.setGen g .running) r s₁ → r = .ok (.ret .none) ∧ ∀ h' e, (∀ b o, s₁.heap.get? b = some o → h'.get? b = some o) → (∃ o, h'.get? e = some o ∧ o.cls = .type "StopIteration") → E (.ref e) { s₁.setGen g .finished with heap := h' }) :
    wpAny (model P w) A (Builtin.SmallTypes.nextOf (.ref a)) Q E s := by
  unfold Builtin.SmallTypes.nextOf
  refine wpAny_bind (wpAny_callSpecial?_slot (name := Str.ofString "__next__") hg.typeIs slot_gen_next (wpAny_call_entry slot_gen_next hg.typeIs entry_gen_next ?_ (args_gen_next _)))
  show wpAny _ A.in1 (Builtin.Generator.genWake (.ref a) (.send .none)) _ _ s
  unfold Builtin.Generator.genWake
  refine wpAny_bind (wpAny_holding (wpAny_genNumber hg (wpAny_bind (wpAny_genState hgs ?_))))
  have body : ∀ {k : GenResult → Sem PySem.Fin} {Q' : PySem.Fin → Shared → Prop}, (∀ v s₁, Q v s₁ → wpAny (model P w) A.in1 (k (.yielded v)) Q' E s₁) → (∀ s₁ : Shared, (∀ (h' : Heap) (e : Addr), (∀ b o, s₁.heap.get? b = some o → h'.get? b = some o) → (∃ o, h'.get? e = some o ∧ o.cls = .type "StopIteration") → E (.ref e) { s₁.setGen g .finished with heap := h' }) → wpAny (model P w) A.in1 (k (.returned .none)) Q' E (s₁.setGen g .finished)) →
      wpAny (model P w) A.in1 (.resume g (.send .none) [] k) Q' E s := fun {k Q'} h1 h2 => resume_asleep hgs hgo (fun r s₁ hr => by
    obtain ⟨er, hE⟩ := hR r s₁ hr
    subst er
    exact h2 s₁ hE) fun v s₁ gs' hs hb hv => h1 v _ (hY v s₁ gs' hs hb hv)
  have stop : ∀ {Q' : PySem.Fin → Shared → Prop} (s₁ : Shared), (∀ (h' : Heap) (e : Addr), (∀ b o, s₁.heap.get? b = some o → h'.get? b = some o) → (∃ o, h'.get? e = some o ∧ o.cls = .type "StopIteration") → E (.ref e) { s₁.setGen g .finished with heap := h' }) →
      ∀ {f : PUnit → Sem PySem.Fin}, wpAny (model P w) A.in1 (newExc (.type "StopIteration") [] >>= fun e => raiseNew e >>= f) Q' E (s₁.setGen g .finished) := fun {Q'} s₁ hE f => by
    simp only [newExc, newTuple]
    refine wpAny_bind (wpAny_bind (wpAny_newObj_type (wpAny_bind (m := firstArgMember _ _) (wpAny_of_eq (a := Value.none) (by first | rfl | (simp only [firstArgMember]; rfl)) (wpAny_newObj_type ?_ (by size_fits)))) (by size_fits)))
    simp only [raiseNew]
    refine wpAny_bind (wpAny_bind (wpAny_handled ?_))
    rw [show A.in1.handled = none from hh]
    exact wpAny_throw (hE _ _ (fun b o hb => Heap.get?_push_of_some _ (Heap.get?_push_of_some _ hb)) ⟨_, Heap.get?_push_size _ rfl, rfl⟩)
  cases gs with
  | running => exact hgo.elim
  | finished => exact hgo.elim
  | fresh c => exact wpAny_bind (wpAny_roomToWake hl hroom (body (fun v s₁ hv => wpAny_pure ⟨v, rfl, wpAny_pure hv⟩) fun s₁ h => stop s₁ h))
  | suspended k0 l0 c0 p0 fs0 cl => exact wpAny_bind (wpAny_roomToWake hl hroom (body (fun v s₁ hv => wpAny_pure ⟨v, rfl, wpAny_pure hv⟩) fun s₁ h => stop s₁ h))
/-- a pair comes out of the enumerate at e, whatever hands out its items -/
theorem enum_next_any {e it : Addr} {i : Nat} {old : Value} {Q : Value → Shared → Prop} (he : IsEnum s.heap e it i old)
    (hn : wpAny (model P w) A (Builtin.SmallTypes.nextOf (.ref it)) (fun x s1 => IsEnum s1.heap e it i old ∧ ∀ h', IsEnumOut h' e it ((i : Int) + 1) x s1.heap.objs.size → h'.get? s1.heap.objs.size = some { cls := .type "tuple", data := .seq #[.int i s1.toks, x] } →
      (∀ b o, b ≠ e → s1.heap.get? b = some o → h'.get? b = some o) → Q (.ref s1.heap.objs.size) { s1 with heap := h', toks := s1.toks + 1 }) (fun x s1 => E x s1) s) :
    wpAny (model P w) A (Builtin.«enumerate.__next__» ⟨[.ref e], []⟩) (fun fin s' => ∃ v, fin = .done (.ret v) ∧ Q v s') E s := by
  show wpAny _ _ (field (.ref e) 2 >>= _) _ _ _
  refine wpAny_bind (wpAny_field he rfl (x := .ref it) rfl (wpAny_bind (wpAny_mono hn (fun x s1 hs => ?_) fun _ _ z => z)))
  obtain ⟨he1, hQ⟩ := hs
  obtain ⟨hp, gs, d, tk, os⟩ := s1
  have he1 : IsEnum hp e it i old := he1
  refine wpAny_bind (wpAny_field he1 rfl (x := rawInt i) rfl ?_)
  show wpAny _ _ (field (.ref e) 4 >>= _) _ _ ⟨hp, gs, d, tk, os⟩
  refine wpAny_bind (wpAny_field he1 rfl (x := .none) rfl ?_)
  show wpAny _ _ (mkInt i >>= _) _ _ ⟨hp, gs, d, tk, os⟩
  refine wpAny_bind (wpAny_mkInt (wpAny_bind (wpAny_setField_rec he1 (by simp) fun h2 he2 hs2 => ?_)))
  have he2 : IsEnum h2 e it ((i : Int) + 1) old := he2
  refine wpAny_bind (wpAny_setField_rec he2 (by simp) fun h3 he3 hs3 => ?_)
  have he3 : IsEnum h3 e it ((i : Int) + 1) old := he3
  have hs2 : Heap.SameBut e hp h2 := hs2
  have hs3 : Heap.SameBut e h2 h3 := hs3
  show wpAny _ _ (newTuple [.int i tk, x] >>= _) _ _ ⟨h3, gs, d, tk + 1, os⟩
  refine wpAny_bind (wpAny_newTuple ?_)
  have hz : h3.objs.size = hp.objs.size := hs3.1.trans hs2.1
  have hel : e < hp.objs.size := Heap.lt_size he1
  have he4 : IsEnum (h3.push { cls := .type "tuple", data := .seq #[.int i tk, x] }) e it ((i : Int) + 1) old := Heap.get?_push_of_some _ he3
  have ht : (h3.push { cls := .type "tuple", data := .seq #[.int i tk, x] }).get? hp.objs.size = some { cls := .type "tuple", data := .seq #[.int i tk, x] } := by rw [← hz]; exact Heap.get?_push_size _ rfl
  have hk : ∀ b o, b ≠ e → hp.get? b = some o → (h3.push { cls := .type "tuple", data := .seq #[.int i tk, x] }).get? b = some o := fun b o hb q => Heap.get?_push_of_some _ ((hs3.2 b hb).trans ((hs2.2 b hb).trans q))
  generalize h3.push { cls := .type "tuple", data := .seq #[.int i tk, x] } = h4 at he4 ht hk ⊢
  show wpAny _ _ (Builtin.SmallTypes.ownedTupleIsFree (.ref e) >>= _) _ _ ⟨h4, gs, d, tk + 1, os⟩
  rw [hz]
  refine wpAny_bind ?_
  unfold Builtin.SmallTypes.ownedTupleIsFree
  refine wpAny_bind (wpAny_field he4 rfl (x := .none) rfl (wpAny_pure ?_))
  rw [if_pos rfl]
  refine wpAny_bind (wpAny_rule (wpAny_bind (wpAny_field he4 rfl (x := old) rfl (wpAny_bind (wpAny_setField_rec he4 (by simp) fun h5 he5 hs5 => ?_)))))
  have he5 : IsEnum h5 e it ((i : Int) + 1) x := he5
  have hs5 : Heap.SameBut e h4 h5 := hs5
  show wpAny _ _ (Builtin.SmallTypes.ownedTupleHandOut (.ref e) (.ref hp.objs.size) >>= _) _ _ ⟨h5, gs, d, tk + 1, os⟩
  unfold Builtin.SmallTypes.ownedTupleHandOut
  refine wpAny_bind (wpAny_bind (wpAny_setField_rec he5 (by simp) fun h6 he6 hs6 => ?_))
  have he6 : IsEnumOut h6 e it ((i : Int) + 1) x hp.objs.size := he6
  have hs6 : Heap.SameBut e h5 h6 := hs6
  refine wpAny_setField_rec he6 (by simp) fun h7 he7 hs7 => ?_
  have he7 : IsEnumOut h7 e it ((i : Int) + 1) x hp.objs.size := he7
  have hs7 : Heap.SameBut e h6 h7 := hs7
  have up : ∀ b o, b ≠ e → h4.get? b = some o → h7.get? b = some o := fun b o hb q => (hs7.2 b hb).trans ((hs6.2 b hb).trans ((hs5.2 b hb).trans q))
  exact wpAny_bind (wpAny_letGo (wpAny_pure ⟨_, rfl, hQ h7 he7 (up _ _ (Nat.ne_of_gt hel) ht) fun b o hb q => up b o hb (hk b o hb q)⟩))
/-- .. or its end -/
theorem enum_next_end {e it : Addr} {i : Int} {old : Value} {Q : Option Value → Shared → Prop} (he : IsEnum s.heap e it i old)
    (hn : wpAny (model P w) A.in1 (Builtin.SmallTypes.nextOf (.ref it)) (fun _ _ => False) (fun x s1 => (∃ a o, x = .ref a ∧ s1.heap.get? a = some o ∧ o.cls = .type "StopIteration") ∧ Q none s1) s) : wpAny (model P w) A (pyNext (.ref e)) Q E s := by
  have hT : s.TypeIs (.ref e) "enumerate" := ⟨_, he, rfl⟩
  unfold pyNext
  refine wpAny_bind (wpAny_attempt (wpAny_callSpecial?_slot (name := Str.ofString "__next__") hT F.slot_enumerate_next (wpAny_call_entry F.slot_enumerate_next hT F.entry_enumerate_next ?_ (F.args_enumerate_next_1 _))))
  show wpAny _ _ (field (.ref e) 2 >>= _) _ _ _
  refine wpAny_bind (wpAny_field he rfl (x := .ref it) rfl (wpAny_bind (wpAny_mono hn (fun _ _ z => z.elim) fun x s1 ⟨⟨a, o, ex, ho, hc⟩, q⟩ => ?_)))
  subst ex
  exact wpAny_bind (wpAny_isInstance (T := "StopIteration") (b := true) ⟨o, ho, hc⟩ isSubtype_stop (wpAny_pure q))
theorem enum_next_item {e it : Addr} {i : Nat} {old : Value} {Q : Option Value → Shared → Prop} (he : IsEnum s.heap e it i old)
    (hn : wpAny (model P w) A.in1 (Builtin.SmallTypes.nextOf (.ref it)) (fun x s1 => IsEnum s1.heap e it i old ∧ ∀ h', IsEnumOut h' e it ((i : Int) + 1) x s1.heap.objs.size → h'.get? s1.heap.objs.size = some { cls := .type "tuple", data := .seq #[.int i s1.toks, x] } →
      (∀ b o, b ≠ e → s1.heap.get? b = some o → h'.get? b = some o) → Q (some (.ref s1.heap.objs.size)) { s1 with heap := h', toks := s1.toks + 1 }) (fun _ _ => False) s) : wpAny (model P w) A (pyNext (.ref e)) Q E s := by
  have hT : s.TypeIs (.ref e) "enumerate" := ⟨_, he, rfl⟩
  unfold pyNext
  exact wpAny_bind (wpAny_attempt (wpAny_callSpecial?_slot (name := Str.ofString "__next__") hT F.slot_enumerate_next (wpAny_call_entry F.slot_enumerate_next hT F.entry_enumerate_next
    (enum_next_any he (wpAny_mono hn (fun x s1 ⟨h1, h2⟩ => ⟨h1, fun h' a b c => wpAny_pure (h2 h' a b c)⟩) fun _ _ z => z.elim)) (F.args_enumerate_next_1 _))))
end
set_option maxHeartbeats 8000000 in
theorem meets_enumG (a g : Nat) : Meets (Builtin.«enumerate.__new__» ⟨[.type "enumerate", .ref a], []⟩) (fun _ R s => s.heap.IsGen a g ∧
    R (.ok (.ret (.ref s.heap.objs.size))) { s with heap := s.heap.push { cls := .type "enumerate", data := .fields #[.none, .bool false, .ref a, rawInt 0, .none, .none] } }) :=
  .of_wp fun prog w A R s h => by
    obtain ⟨hp, gs, d, tk, os⟩ := s
    obtain ⟨h1, h⟩ := h
    have hsub := sub_enumerate
    have q1 : ∀ {A' : Around} {E : Value → Shared → Prop} {Q : Value → Shared → Prop}, Q (.ref a) ⟨hp, gs, d, tk, os⟩ → wpAny (model prog w) A' (pyIter (.ref a)) Q E ⟨hp, gs, d, tk, os⟩ := fun q => wpAny_pyIter_gen (s := ⟨hp, gs, d, tk, os⟩) h1 q
    wp_walk using q1
    refine wpAny_stack_any fun st => wpAny_pure ?_
    split
    · rename_i c _ _ _ _ _
      cases (c == Value.type "enumerate") <;> (wp_walk using q1; exact ⟨_, rfl, h⟩)
    · wp_walk using q1
      exact ⟨_, rfl, h⟩
theorem call_enumG {prog : Program} {w : World} {A : Around} {E : Value → Shared → Prop} {s : Shared} {a g : Nat} {Q : Value → Shared → Prop} (h1 : s.heap.IsGen a g)
    (h : ∀ h', IsEnum h' s.heap.objs.size a 0 .none → (∀ b o, s.heap.get? b = some o → h'.get? b = some o) → Q (.ref s.heap.objs.size) { s with heap := h' }) : wpAny (model prog w) A (call (.type "enumerate") [.ref a]) Q E s := by
  refine callType_new F.called_enumerate (by decide) (F.typeCall_enumerate_1 _) (F.newCall_enumerate_1 _) (fun obj => F.args_object_init_2 obj _) F.entry_enumerate_new (meets_enumG a g) ⟨h1, ?_⟩
  exact ⟨⟨_, Heap.get?_push_size s.heap rfl, rfl⟩, h _ (Heap.get?_push_size s.heap rfl) fun b o x => Heap.get?_push_of_some _ x⟩

/-! ### for index, found in enumerate(walk(value)) -/
section
variable {X : Cx} {pins : List (Addr × Obj)} {σ : St} {H : Hp} {s : Shared}
theorem inv_table {G' : Array GenState} (I : Inv X pins σ H s) (h : PyProof.Rows.AllBare G') : Inv X pins σ H { s with gens := G' } :=
  ⟨I.ok, I.os, h, I.base, I.loc, I.cell, I.free, I.freeC, I.pin, I.hok, I.len⟩
end
/-- the tuples -/
def tupsOf (H : Hp) : Hp := fun b => match H b with
  | some (.tup xs) => some (.tup xs)
  | _ => none
theorem tupsOf_at {H : Hp} {b : Addr} {o : HO} (h : tupsOf H b = some o) : ∃ xs, o = .tup xs ∧ H b = some (.tup xs) := by
  unfold tupsOf at h
  split at h
  · rename_i xs e
    cases h
    exact ⟨xs, rfl, e⟩
  · cases h
theorem tupsOf_tup {H : Hp} {b : Addr} {xs : List V} (h : H b = some (.tup xs)) : tupsOf H b = some (.tup xs) := by
  unfold tupsOf
  rw [h]
theorem tupsOf_none {H : Hp} {b : Addr} (h : H b = none) : tupsOf H b = none := by
  unfold tupsOf
  rw [h]
/-- the generator that a call of it makes in the frame X, the state s -/
def gpOf (X : Cx) (N : List Str) (qual : Str) (scope : Scope) (f : Addr) (cd : Value) (H : Hp) (s : Shared) : GP := { X := X, Aw := X.A.in1.in1, N := N, qual := qual, scope := scope, f := f, cd := cd, L := s.heap.objs.size, n0 := s.heap.objs.size, D := tupsOf H }
section
variable {X : Cx} {pins : List (Addr × Obj)} {σ : St} {H : Hp} {s : Shared} {x qual : Str} {params : Arguments} {body : List Stmt} {scope : Scope} {f : Addr} {fd : FuncData} {N ps : List Str}
theorem gp_good (I : Inv X pins σ H s) (hnc : ∀ n, PySem.cellsFrom n scope.names [] = []) {cd : Value} : (gpOf X N qual scope f cd H s).Good where
  tups := fun b o e => by
    obtain ⟨xs, rfl, h⟩ := tupsOf_at e
    exact ⟨⟨xs, rfl⟩, I.hok.lt h⟩
  le := Nat.le_refl _
  nc := fun y c e => by
    have e : (PySem.cellsFrom (s.heap.objs.size + 1) scope.names []).lookup y = some c := e
    rw [hnc] at e
    cases e
  lt := I.lt
  ltc := fun y c e => by
    obtain ⟨v, o, ho, _⟩ := I.cell y c e
    exact Heap.lt_size ho
  s0 := I.sz
/-- a call of it -/
theorem gen_made {k : Nat} (F : FunD X.K x qual params body scope [] [] f fd) (S : GScope N ps scope) (hnc : ∀ n, PySem.cellsFrom n scope.names [] = []) (hr : Room (k + 1) X.A)
    (hb : ∀ (kV doc pm : Value) (an : Option Addr) (cdv ct : Value) (us : List Value), us.length = ps.length → bindArgs (PySem.W.fnOf x qual params body scope .none kV doc pm an cdv ct) ⟨us, []⟩ = pure (ps.zip us))
    {vs : List V} {us : List Value} {Q : Value → Shared → Prop} {E : Value → Shared → Prop} (I : Inv X pins σ H s) (r : Vals vs us) (hl : vs.length = ps.length)
    (h : ∀ (a g : Nat) (cdv : Value) (s' : Shared), Inv X pins σ H s' → s.heap.objs.size ≤ a → a ≠ s.heap.objs.size → s'.heap.IsGen a g → s'.gens[g]? = some (.fresh (.func body (PyProof.Rows.envOfC qual scope s.heap.objs.size f cdv))) → (∀ b o, s.heap.get? b = some o → s'.heap.get? b = some o) → s.heap.objs.size < s'.heap.objs.size →
      GSt (gpOf X N qual scope f cdv H s) none (start N vs) s' → Q (.ref a) s') : wpAny (model X.prog X.w) X.A (call (.ref f) us) Q E s := by
  have hul : us.length = ps.length := by rw [← r.length]; exact hl
  have hbind : BindsTo s fd ⟨us, []⟩ (ps.zip us) := F.bindsA hb s us hul
  obtain ⟨oc, od, dV, kV, doc, pm, an, cdv, ct, osl, rfl, lk, hcd, dl, _⟩ := F.ex
  have e0 := I.env0
  have lim : s.heap.NoLimit := I.nolimit
  have hkind : ∀ y ∈ ps.zip us, scope.names.lookup y.1 = some .local ∨ (scope.names.lookup y.1 = some .cell ∧ ((PySem.cellsFrom (s.heap.objs.size + 1) scope.names []).lookup y.1).isSome = true) := fun ⟨n, v⟩ hy => by
    rcases S.par n (List.of_mem_zip hy).1 with q | q
    · exact .inl q
    · exact .inr ⟨q, PySem.W.cellsFrom_some _ _ _ (.inl q)⟩
  refine wpAny_call (codeAny_call_generator hr.depth (I.kIn _ _ lk) rfl S.co S.gen rfl (PySem.W.codeRec_of I.kIn hcd) (hbind _ _ _ _ (wpAny_newFunctionEnv_cells S.kind hkind fun env he s1 x => ?_)))
  subst he
  refine ⟨lim.keeps x.toInCall.keep, ?_⟩
  obtain ⟨h1, tk, es1, hk1⟩ := x.done
  have lt1 : s.heap.objs.size < s1.heap.objs.size := x.toInCall.ns.lt
  have kp1 : ∀ b o, s.heap.get? b = some o → s1.heap.get? b = some o := x.toInCall.keep
  have gd : (gpOf X N qual scope f cdv H s).Good := gp_good I hnc
  have Dn : ∀ b, H b = none → tupsOf H b = none := fun b q => tupsOf_none q
  -- its own frame
  have J := inv_startG (mg := X.mg) (base := X.base) (outer := X.stack) (N := N) (qual := qual) (f := f) (cd := cdv) (A := X.A.in1.in1) (E := fun _ _ _ => False) S (show X.A.in1.in1.handled = none from hr.hd) (e0.in1.in1) hl r x
  have main : ∀ (go : Obj) (nm qn : Value) (tk2 : Nat), go.cls = .type "generator" → go.data = .fields #[.int s1.gens.size 0, nm, qn] → go.slots = #[] → (∀ h : Heap, (h.push go).get? h.objs.size = some go) →
      Q (.ref s1.heap.objs.size) { s1 with gens := s1.gens.push (.fresh (.func body (PyProof.Rows.envOfC qual scope s.heap.objs.size f cdv))), toks := tk2, heap := s1.heap.push go } := fun go nm qn tk2 q1 q2 q3 q4 => by
    have kp2 : ∀ b o, s1.heap.get? b = some o → (s1.heap.push go).get? b = some o := fun b o e => Heap.get?_push_of_some _ e
    have bare2 : PyProof.Rows.AllBare (s1.gens.push (.fresh (.func body (PyProof.Rows.envOfC qual scope s.heap.objs.size f cdv)))) := PyProof.Rows.AllBare.push J.bare rfl
    have os1 : s1.os = s.os := by rw [es1]
    refine h _ s1.gens.size cdv _ ?_ (Nat.le_of_lt lt1) (Nat.ne_of_gt lt1) ⟨go, nm, qn, q4 _, q1, q2, q3⟩ (Array.getElem?_push_size ..) (fun b o e => kp2 b o (kp1 b o e)) (by show _ < (s1.heap.push go).objs.size; rw [Heap.size_push]; omega) ?_
    · exact I.call' (H' := H) (ch := []) os1 (Un.kept fun b o e => kp2 b o (kp1 b o e)) (I.hok.kept fun b o e => kp2 b o (kp1 b o e)) bare2 fun b z => by simp at z
    · refine ⟨s, rfl, ⟨⟨J.ok.mod, J.ok.kind, rfl, rfl, J.ok.above, J.ok.inj, J.ok.has, J.ok.cab, J.ok.hd, J.ok.frames, J.ok.stk, fun b hb => absurd hb (by simp [GP.cx]), fun b o e => ⟨(J.ok.bs b o e).1, Dn b (J.ok.bs b o e).2⟩, J.ok.bsz, fun b o e => by simp [GP.cx], fun b hb => absurd hb (by simp [GP.cx]), J.ok.funs, fun b hb => Dn b (J.ok.frf b hb)⟩,
        os1, bare2, Un.kept fun b o e => kp2 b o (kp1 b o e), ?_, fun y c e => absurd e (gd.nc y c), ?_, fun y c e => absurd e (gd.nc y c), fun p hp => absurd (show p ∈ ([] : List (Addr × Obj)) from hp) (by simp), fun b o e => ?_, J.len⟩, fun l hl => absurd hl (by simp [GP.ls])⟩
      · obtain ⟨m, ⟨o, es, ep, ho, rr⟩, q⟩ := J.loc
        refine ⟨m, ⟨o, es, ep, kp2 _ o ho, rr⟩, fun i y v e1 e2 e3 => ?_⟩
        obtain ⟨u, r1, lk'⟩ := q i y v e1 e2 e3
        refine ⟨u, r1, ?_⟩
        rcases lk' with lk' | ⟨_, c, e, _⟩
        · exact .inl lk'
        · exact absurd e (gd.nc y c)
      · exact Dn _ (I.hok.fresh (Nat.le_refl _))
      · obtain ⟨xs, rfl, e2⟩ := tupsOf_at (show tupsOf H b = some o from e)
        obtain ⟨z, its, rr, ob, eb, hc⟩ := I.hok b _ e2
        exact ⟨z, its, rr, ob, kp2 b ob (kp1 b ob eb), hc⟩
  exact main _ _ _ _ rfl rfl rfl fun h => Heap.get?_push_size _ rfl
end
/-- only tuples more are tracked -/
def TupExt (H1 H2 : Hp) : Prop := ∀ b, H2 b = H1 b ∨ (H1 b = none ∧ ∃ xs, H2 b = some (.tup xs))
theorem TupExt.refl (H : Hp) : TupExt H H := fun _ => .inl rfl
theorem TupExt.put {H1 H2 : Hp} {p : Addr} {xs : List V} (h : TupExt H1 H2) (n : H2 p = none) : TupExt H1 (upd H2 p (.tup xs)) := fun b => by
  by_cases hb : b = p
  · subst hb
    rw [upd_same]
    rcases h b with e | ⟨e, _⟩
    · exact .inr ⟨e.symm.trans n, xs, rfl⟩
    · exact .inr ⟨e, xs, rfl⟩
  · rw [upd_ne hb]
    exact h b
def tForW {δ : Type} (T : Hp → V → δ → Prop) (pre : δ → List δ) (te : TE) (g : TG) (tb : TS) : TS := fun D σ H => te σ H fun v H1 => ∃ d0, T H1 v d0 ∧ (pre d0).length ≤ sizeLine ∧ ∃ Pv : Nat → St → Hp → Prop, Pv 0 σ H1 ∧ (∀ i σ2 H2, Pv i σ2 H2 → TupExt H1 H2) ∧
  (∀ i x d σ2 H2 p, (pre d0)[i]? = some d → T H1 x d → Pv i σ2 H2 → H2 p = none → g (.ref p) σ2 (upd H2 p (.tup [.int (i : Nat), x])) fun σ3 H3 => tb { D with nx := Pv (i + 1), ct := Pv (i + 1), bk := D.nx } σ3 H3) ∧ ∀ σ2 H2, Pv (pre d0).length σ2 H2 → D.nx σ2 H2
section
variable {X : Cx} {x qual : Str} {params : Arguments} {body : List Stmt} {scope : Scope} {f : Addr} {fd : FuncData} {N ps : List Str} {δ : Type} {T : Hp → V → δ → Prop} {kids pre : δ → List δ} {st1 sA sB : Stmt} {test nm e : Expr} {wp yp ep p1 p2 p3 p4 pos tpos : Pos} {elts : List Expr} {kk k : Nat} {te : TE} {g : TG} {tb : TS} {bd : List Stmt}
/-- where the loop stands -/
structure WAt (G : GP) (T : V → δ → Prop) (kids pre : δ → List δ) (v : V) (L0 : List δ) (en a gi : Nat) (pins : List (Addr × Obj)) (i : Nat) (σ : St) (H : Hp) (s : Shared) : Prop where
  inv : Inv G.X pins σ H s
  tx : TX G H
  he : H en = none
  ha : H a = none
  hL : H G.L = none
  enum : ∃ old, IsEnum s.heap en a ((i : Nat) : Int) old
  gen : s.heap.IsGen a gi
  more : ∃ gs lo σg sG, s.gens[gi]? = some gs ∧ GSt G lo σg sG ∧ (∀ o, sG.heap.get? G.L = some o → s.heap.get? G.L = some o) ∧ (∀ l ∈ GP.ls lo, ∀ o, sG.heap.get? l = some o → s.heap.get? l = some o) ∧
    ∀ s2 s0 pins, GAw G lo σg s2 s0 pins → gs.Goes (model G.X.prog G.X.w) G.Aw (WR G) (WY G T kids pre v L0) (L0.length - i) (.send .none) s2
theorem gp_fp {G : GP} {pins : List (Addr × Obj)} {σ : St} {H : Hp} {s : Shared} (gd : G.Good) (I : Inv G.X pins σ H s) (hp : ∀ p ∈ G.X.pn ++ pins, p.1 < G.n0) {b : Addr} (hb : G.n0 ≤ b) (hn : H b = none) : FpOk G.X pins H b := by
  refine ⟨hn, Nat.ne_of_gt (Nat.lt_of_lt_of_le gd.lt hb), fun z => ?_, .inr (Nat.le_trans gd.s0 hb), fun y c q => Nat.ne_of_lt (Nat.lt_of_lt_of_le (gd.ltc y c q) hb), fun p h => Nat.ne_of_lt (Nat.lt_of_lt_of_le (hp p h) hb)⟩
  obtain ⟨_, o, ho, _⟩ := I.ok.funs.mem z
  exact absurd (Nat.lt_of_lt_of_le (Heap.lt_size ho) (Nat.le_trans gd.s0 hb)) (Nat.lt_irrefl _)
/-- behind a run of the generator -/
theorem WAt.ran {G : GP} {TD : V → δ → Prop} {v : V} {L0 : List δ} {en a gi : Nat} {pins : List (Addr × Obj)} {i : Nat} {σ : St} {H : Hp} {s s1 : Shared} {ls : List Addr} (gd : G.Good) (w : WAt G TD kids pre v L0 en a gi pins i σ H s) (hp : ∀ p ∈ G.X.pn ++ pins, p.1 < G.n0)
    (h1 : G.n0 ≤ en) (h2 : G.n0 ≤ a) (h3 : en ≠ G.L) (h4 : a ≠ G.L) (lo : LsOk G ls (s.setGen gi .running)) (kp : KeepG G ls (s.setGen gi .running) s1) : Inv G.X pins σ H s1 ∧ (∀ old, IsEnum s.heap en a ((i : Nat) : Int) old → IsEnum s1.heap en a ((i : Nat) : Int) old) ∧ s1.heap.IsGen a gi ∧ ∀ l ∈ ls, H l = none := by
  have nl : ∀ l ∈ ls, H l = none := fun l hl => by
    obtain ⟨q1, _, o, ho, hc⟩ := lo l hl
    have ho : s.heap.get? l = some o := ho
    cases q : H l with
    | none => rfl
    | some u =>
      rcases w.tx.out l u q with ⟨z, _⟩ | ⟨_, xs, rfl⟩
      · exact absurd z (Nat.not_lt.mpr q1)
      · obtain ⟨_, _, _, o2, ho2, hc2, _⟩ := w.inv.hok l _ q
        rw [ho] at ho2
        cases ho2
        rw [hc] at hc2
        injection hc2 with z
        exact absurd z (by decide)
  obtain ⟨old, hen⟩ := w.enum
  obtain ⟨oa, nmv, qn, hoa, hca, hda, hsa⟩ := w.gen
  have Ir : Inv G.X pins σ H (s.setGen gi .running) := inv_table w.inv (allBare_setGen w.inv.bare rfl)
  have nen : en ∉ ls := fun z => by
    obtain ⟨_, _, o, ho, hc⟩ := lo en z
    have ho : s.heap.get? en = some o := ho
    rw [hen] at ho
    cases ho
    injection hc with z
    exact absurd z (by decide)
  have na : a ∉ ls := fun z => by
    obtain ⟨_, _, o, ho, hc⟩ := lo a z
    have ho : s.heap.get? a = some o := ho
    rw [hoa] at ho
    cases ho
    rw [hca] at hc
    injection hc with z
    exact absurd z (by decide)
  refine ⟨kp.back gd Ir w.tx nl w.hL fun p h => ⟨Nat.ne_of_lt (Nat.lt_of_lt_of_le (hp p h) gd.le), fun z => absurd (hp p h) (Nat.not_lt.mpr (lo p.1 z).1)⟩, (fun old' hen' => kp.high en _ h1 h3 nen hen' fun v z => nomatch z), ⟨oa, nmv, qn, kp.high a oa h2 h4 na hoa (fun v z => by rw [hda] at z; cases z), hca, hda, hsa⟩, nl⟩
/-- the rule -/
theorem ps_forW {G : GP} {v : V} {d0 : δ} {pins : List (Addr × Obj)} {σ : St} {H : Hp} {s : Shared} {D : Ends} {en a gi : Nat} {Pv : Nat → St → Hp → Prop} (gd : G.Good) (hX : ∀ y z, ¬ G.X.xe y z) (hc : G.X.calm = true) (hd : G.X.A.handled = none) (hroom : G.X.A.in1.depth < recursionLimit) (hA : G.Aw = G.X.A.in1.in1)
    (hp : ∀ p ∈ G.X.pn ++ pins, p.1 < G.n0) (h1 : G.n0 ≤ en) (h2 : G.n0 ≤ a) (h3 : en ≠ G.L) (h4 : a ≠ G.L) (h5 : en ≠ a)
    (hg : PG G.X (.Tuple elts kk tpos) g) (hb : PSs G.X bd tb) (st : WAt G (T G.D) kids pre v (pre d0) en a gi pins 0 σ H s) (p0 : Pv 0 σ H) (tx : ∀ i σ2 H2, Pv i σ2 H2 → TX G H2)
    (step : ∀ i x d σ2 H2 p, (pre d0)[i]? = some d → T G.D x d → Pv i σ2 H2 → H2 p = none → g (.ref p) σ2 (upd H2 p (.tup [.int (i : Nat), x])) fun σ3 H3 => tb { D with nx := Pv (i + 1), ct := Pv (i + 1), bk := D.nx } σ3 H3) (done : ∀ σ2 H2, Pv (pre d0).length σ2 H2 → D.nx σ2 H2) :
    codeAny (model G.X.prog G.X.w) G.X.A (.forLoop (.Tuple elts kk tpos) (.ref en) bd [] G.X.env) (fun r s' => match r with | .ok f => SP G.X pins D f s' | .error e => cameBackBy (model G.X.prog G.X.w) G.X.A G.X.env G.X.xe e s') s := by
  have never : PassesOwn (model G.X.prog G.X.w) G.X.A G.X.env G.X.xe := fun y z h => (hX y z h).elim
  have fp := fun {σ' : St} {H' : Hp} {s' : Shared} {b : Addr} (I : Inv G.X pins σ' H' s') (hb : G.n0 ≤ b) (hn : H' b = none) => gp_fp gd I hp hb hn
  refine codeAny_forLoop_any (fun n s' => ∃ i σ' H', WAt G (T G.D) kids pre v (pre d0) en a gi pins i σ' H' s' ∧ n = (pre d0).length - i ∧ i ≤ (pre d0).length ∧ Pv i σ' H') ?_ (pre d0).length ⟨0, σ, H, st, rfl, Nat.zero_le _, p0⟩
  rintro n s3 ⟨i, σ3, H3, st3, rfl, hi, p3⟩
  obtain ⟨old, hen⟩ := st3.enum
  obtain ⟨gs, lo, σg, sG, hgs, hst, kL, kl, goes⟩ := st3.more
  have Ir : Inv G.X pins σ3 H3 (s3.setGen gi .running) := inv_table st3.inv (allBare_setGen st3.inv.bare rfl)
  obtain ⟨t0, pins', aw⟩ := hst.wake gd Ir st3.tx kL kl
  have hgo := goes _ _ _ aw
  rw [hA] at hgo
  have ran := fun {ls : List Addr} {s1 : Shared} (q1 : LsOk G ls (s3.setGen gi .running)) (q2 : KeepG G ls (s3.setGen gi .running) s1) => st3.ran gd hp h1 h2 h3 h4 q1 q2
  by_cases hlt : i < (pre d0).length
  · obtain ⟨m, em⟩ : ∃ m, (pre d0).length - i = m + 1 := ⟨(pre d0).length - i - 1, by omega⟩
    rw [em] at hgo
    refine wpAny_passesOwn never (enum_next_item hen (GenW.wpAny_gsz (n := gi + 1) (Array.getElem?_eq_some_iff.mp hgs).1 (nextOf_gen (A := G.X.A.in1) hd Ir.nolimit hroom st3.gen hgs hgo (fun u s1 gs' hsl hb' hy => ?_) fun r s1 hr => by
      obtain ⟨_, z, _⟩ := hr
      cases z)))
    obtain ⟨l, ws, x, ds, d, ls, ru, _, tx1, _, eL, q1, q2, hl0, q3, q4⟩ := hy
    intro hsize
    obtain ⟨I1, hek, hge1, nl⟩ := ran q1 q2
    have he2 := hek old hen
    have hx : (pre d0)[i]? = some d := by
      have e2 : (pre d0).length - (m + 1) = i := by omega
      rw [show m + 1 - 1 = m from rfl, e2] at eL
      have q := congrArg (fun z : List δ => z[0]?) eL
      simp only [List.getElem?_cons_zero, List.getElem?_drop, Nat.add_zero] at q
      exact q.symm
    refine ⟨he2, fun h' ho hT hk => ?_⟩
    refine wpAny_passesOwn never (wpAny_letOwnedTupleGo_enum (s := { s1.setGen gi gs' with heap := h', toks := s1.toks + 1 }) ho fun h2' he' sb => ?_)
    have I4 : Inv G.X pins σ3 H3 (s1.setGen gi gs') := inv_table I1 (allBare_setGen I1.bare hb')
    have hel : en < s1.heap.objs.size := Heap.lt_size he2
    have keep : ∀ b o, b ≠ en → s1.heap.get? b = some o → h2'.get? b = some o := fun b o hb q => (sb.2 b hb).trans (hk b o hb q)
    have hT2 : h2'.get? s1.heap.objs.size = some { cls := .type "tuple", data := .seq #[.int i s1.toks, u] } := (sb.2 _ (Nat.ne_of_gt hel)).trans hT
    have fresh : H3 s1.heap.objs.size = none := I1.hok.fresh (Nat.le_refl _)
    have new : ObjOk G.X.prog G.X.w (upd H3 s1.heap.objs.size (.tup [.int (i : Nat), x])) h2' s1.heap.objs.size (.tup [.int (i : Nat), x]) := ⟨by show 2 ≤ sizeLine; decide, [.int i s1.toks, u], .cons ⟨_, rfl⟩ (.cons ru .nil), ⟨_, hT2, rfl, _, rfl⟩⟩
    have I6 : Inv G.X pins σ3 (upd H3 s1.heap.objs.size (.tup [.int (i : Nat), x])) { s1.setGen gi gs' with heap := h2', toks := s1.toks + 1 } :=
      I4.turnedNew (ch := [en]) (fun b ob hb q => keep b ob (fun z => hb (by simp [z])) q) (fun b hb => by rw [show b = en by simpa using hb]; exact fp I4 h1 st3.he) (Nat.le_refl _) new
    -- the four that stay
    have low4 : ∀ b ∈ [en, a, G.L, l], G.n0 ≤ b := fun b hb => by
      simp only [List.mem_cons, List.not_mem_nil, or_false] at hb
      rcases hb with rfl | rfl | rfl | rfl
      · exact h1
      · exact h2
      · exact gd.le
      · exact hl0
    obtain ⟨sg0, hz0, JG, hlG⟩ := id q3
    obtain ⟨mL, ⟨oL, esL, epL, hoL, hdL, _⟩, _⟩ := JG.loc
    have hoL : s1.heap.get? G.L = some oL := hoL
    obtain ⟨hzl, itl, nl2, rl, hol⟩ := JG.hok l (.lst ws) upd_same
    have nL : G.L ≠ l := fun z => by
      rw [z, hol] at hoL
      cases hoL
      cases hdL
    have hen_l : en ≠ l := fun z => by
      rw [← z, show s1.heap.get? en = _ from he2] at hol
      have q := congrArg Obj.cls (Option.some.inj hol)
      injection q with q
      exact absurd q (by decide)
    obtain ⟨oa, nmv, qn, hoa, hca, hda, hsa⟩ := hge1
    have ha_l : a ≠ l := fun z => by
      rw [← z, hoa] at hol
      cases hol
      cases hda
    have nolT : ∀ b, b < s1.heap.objs.size → b ≠ s1.heap.objs.size := fun b hb => Nat.ne_of_lt hb
    have Hl : H3 l = none := by
      cases q : H3 l with
      | none => rfl
      | some z =>
        rcases st3.tx.out l z q with ⟨y, _⟩ | ⟨_, xs, rfl⟩
        · exact absurd y (Nat.not_lt.mpr hl0)
        · obtain ⟨_, _, _, o2, ho2, hc2, _⟩ := I1.hok l _ q
          rw [hol] at ho2
          cases ho2
          injection hc2 with z
          exact absurd z (by decide)
    have none4 : ∀ b ∈ [en, a, G.L, l], upd H3 s1.heap.objs.size (.tup [.int (i : Nat), x]) b = none := fun b hb => by
      simp only [List.mem_cons, List.not_mem_nil, or_false] at hb
      rcases hb with rfl | rfl | rfl | rfl
      · rw [upd_ne (nolT _ hel)]; exact st3.he
      · rw [upd_ne (nolT _ (Heap.lt_size hoa))]; exact st3.ha
      · rw [upd_ne (nolT _ (Heap.lt_size hoL))]; exact st3.hL
      · rw [upd_ne (nolT _ (Heap.lt_size hol))]; exact Hl
    have e4 : h2'.get? en = some { cls := .type "enumerate", dict := none, data := .fields #[.none, .bool false, .ref a, rawInt ((i : Int) + 1), .none, u], slots := #[] } := he'
    have a4 : h2'.get? a = some oa := keep a oa (Ne.symm h5) hoa
    have L4 : h2'.get? G.L = some oL := keep G.L oL (Ne.symm h3) hoL
    have l4 : h2'.get? l = some { cls := .type "list", data := .seq itl.toArray nl2 } := keep l _ (Ne.symm hen_l) hol
    have obj4 : ∀ b ∈ [en, a, G.L, l], ∃ o, h2'.get? b = some o ∧ ∀ v, o.data ≠ .cell v := fun b hb => by
      simp only [List.mem_cons, List.not_mem_nil, or_false] at hb
      rcases hb with rfl | rfl | rfl | rfl
      · exact ⟨_, e4, fun v z => nomatch z⟩
      · exact ⟨_, a4, fun v z => by rw [hda] at z; cases z⟩
      · exact ⟨_, L4, fun v z => by rw [hdL] at z; cases z⟩
      · exact ⟨_, l4, fun v z => nomatch z⟩
    have I7 := I6.pinned (fp := [en, a, G.L, l]) (fun b hb => fp I6 (low4 b hb) (none4 b hb)) obj4
    -- over the twins
    have tw := twT_map (s1.setGen gi gs').gens
    have gi_lt : gi < s1.gens.size := by
      rw [show (s1.setGen gi gs').gens.size = s1.gens.size from GenW.setGen_size s1 gi gs'] at hsize
      exact hsize
    have atg : (s1.setGen gi gs').gens[gi]? = some gs' := setGen_at gi_lt
    have I7T : Inv G.X (pins ++ pinsAt [en, a, G.L, l] h2') σ3 (upd H3 s1.heap.objs.size (.tup [.int (i : Nat), x])) (withG { s1.setGen gi gs' with heap := h2', toks := s1.toks + 1 } ((s1.setGen gi gs').gens.map twinG)) := inv_table I7 (bare_twin I7.bare)
    have hsw : ∀ {α : Type} {Gt : Array GenState} {y : α} {z : Shared} {P : Prop}, Sw (fun i => ∃ b, (s1.setGen gi gs').gens[i]? = some b ∧ sleeps b) Gt (fun (e : Value) s' => G.X.xe e s') (.none) z → P := fun h => by
      obtain ⟨_, _, _, _, _, q⟩ := h
      exact (hX _ _ q).elim
    refine wpAny_passesOwn never (wpAny_mono (wpAny_swap tw (hg.run _ _ σ3 _ (.ref s1.heap.objs.size) (.ref s1.heap.objs.size) _ I7T rfl (step i x d σ3 H3 _ hx tx1 p3 fresh))) (fun _ s7 hs7 => ?_) fun y s7 ⟨_, _, _, _, _, q⟩ => (hX _ _ q).elim)
    obtain ⟨s7T, G7, e7, tw7, k7, σ7, H7, I7', hw7⟩ := hs7
    subst e7
    refine wpAny_passesOwn never (wpAny_mono (wpAny_swap tw7 (hb.run _ _ σ7 H7 _ I7' hw7)) (fun fl s8 hs8 => ?_) fun y s8 ⟨_, _, _, _, _, q⟩ => (hX _ _ q).elim)
    obtain ⟨s8T, G8, e8, tw8, k8, hf⟩ := hs8
    subst e8
    have back : ∀ {σ8 : St} {H8 : Hp}, Inv G.X (pins ++ pinsAt [en, a, G.L, l] h2') σ8 H8 s8T → Inv G.X pins σ8 H8 (withG s8T G8) := fun I8 => inv_table I8.unpinned (tw8.bare I8.bare)
    have again : ∀ {σ8 : St} {H8 : Hp}, Inv G.X (pins ++ pinsAt [en, a, G.L, l] h2') σ8 H8 s8T → Pv (i + 1) σ8 H8 → ∃ m', m' < (pre d0).length - i ∧ ∃ i' σ' H', WAt G (T G.D) kids pre v (pre d0) en a gi pins i' σ' H' (withG s8T G8) ∧ m' = (pre d0).length - i' ∧ i' ≤ (pre d0).length ∧ Pv i' σ' H' := fun {σ8 H8} I8 p8 => by
      have pin := fun (b : Addr) (o : Obj) (hb : b ∈ [en, a, G.L, l]) (q : h2'.get? b = some o) => I8.pin (b, o) (List.mem_append_right _ (List.mem_append_right _ (mem_pinsAt hb q)))
      have p1 := pin en _ (by simp) e4
      have p2 := pin a _ (by simp) a4
      have p3' := pin G.L _ (by simp) L4
      have p4 := pin l _ (by simp) l4
      refine ⟨(pre d0).length - (i + 1), by omega, i + 1, σ8, H8, ⟨back I8, tx _ _ _ p8, p1.2.1, p2.2.1, p3'.2.1, ⟨u, ?_⟩, ⟨oa, nmv, qn, p2.1, hca, hda, hsa⟩, gs', some (l, ws), _, s1, ?_, q3, fun o ho => ?_, fun l' hl' o ho => ?_, fun s2 s0 pins2 aw2 => ?_⟩, rfl, hlt, p8⟩
      · have e1 : ((i + 1 : Nat) : Int) = (i : Int) + 1 := by omega
        rw [e1]
        exact p1.1
      · show G8[gi]? = some gs'
        have hS : ∃ b, (s1.setGen gi gs').gens[gi]? = some b ∧ sleeps b := ⟨gs', atg, hsl⟩
        rw [k8 gi hS, k7 gi hS]
        exact atg
      · rw [hoL] at ho
        cases ho
        exact p3'.1
      · rw [List.mem_singleton.mp hl'] at ho ⊢
        rw [hol] at ho
        cases ho
        exact p4.1
      · have z := q4 s2 s0 pins2 aw2
        rw [show (pre d0).length - (i + 1) = m by omega, hA]
        exact z
    cases fl with
    | next => obtain ⟨σ8, H8, I8, q⟩ := hf; exact again I8 q
    | cont => obtain ⟨σ8, H8, I8, q⟩ := hf; exact again I8 q
    | brk => obtain ⟨σ8, H8, I8, q⟩ := hf; exact ⟨σ8, H8, back I8, q⟩
    | ret y => obtain ⟨z, σ8, H8, I8, r8, q⟩ := hf; exact ⟨z, σ8, H8, back I8, r8, q⟩
  · have ei : i = (pre d0).length := by omega
    subst ei
    rw [Nat.sub_self] at hgo
    refine wpAny_passesOwn never (enum_next_end hen (nextOf_gen (A := G.X.A.in1) hd Ir.nolimit hroom st3.gen hgs hgo (fun u s1 gs' _ hb' hy => ?_) fun r s1 hr => ?_))
    · obtain ⟨l, ws, x, ds, d, ls, _, _, _, _, _, q1, q2, _, q3, q4⟩ := hy
      obtain ⟨I1, _, _, nl⟩ := ran q1 q2
      obtain ⟨t1, pins1, aw1⟩ := q3.wake gd I1 st3.tx (fun _ z => z) fun _ _ _ z => z
      exact (q4 _ _ _ aw1).elim
    · obtain ⟨er, _, ls, q1, q2⟩ := hr
      obtain ⟨I1, _, _, _⟩ := ran q1 q2
      refine ⟨er, fun h' e' hk ho => ?_⟩
      obtain ⟨o, ho, hoc⟩ := ho
      refine ⟨⟨e', o, rfl, ho, hoc⟩, ?_⟩
      have I2 : Inv G.X pins σ3 H3 { s1.setGen gi .finished with heap := h' } := (inv_table I1 (allBare_setGen I1.bare rfl)).kept (t' := s1.toks) hk
      exact wpAny_execs_nil ⟨σ3, H3, I2, done σ3 H3 p3⟩
end
section
variable {X : Cx} {x qual : Str} {params : Arguments} {body : List Stmt} {scope : Scope} {f : Addr} {fd : FuncData} {N ps : List Str} {δ : Type} {T : Hp → V → δ → Prop} {kids pre : δ → List δ} {st1 sA sB : Stmt} {test nm e : Expr} {wp yp ep p1 p2 p3 p4 pos tpos : Pos} {elts : List Expr} {kk k : Nat} {te : TE} {g : TG} {tb : TS} {bd : List Stmt}
theorem ps_walk (hX : ∀ y z, ¬ X.xe y z) (hc : X.calm = true) (hr : Room (k + 1) X.A) (hge : Gl X "enumerate") (hme : X.mg "enumerate" = none) (hgw : Gl X x) (F : FunD X.K x qual params body scope [] [] f fd) (hm : X.mg x = some (.ref f)) (S : GScope N ps scope)
    (hnc : ∀ n, PySem.cellsFrom n scope.names [] = []) (hbi : ∀ (kV doc pm : Value) (an : Option Addr) (cdv ct : Value) (us : List Value), us.length = ps.length → bindArgs (PySem.W.fnOf x qual params body scope .none kV doc pm an cdv ct) ⟨us, []⟩ = pure (ps.zip us))
    (ebody : body = [st1, .While test [sA, .Expr (.Yield (some nm) yp) ep, sB] [] wp]) (hps : ps.length = 1) (hN : ∀ v, start N [v] = [some v, none, none]) (hTD : ∀ H v d, T H v d → T (tupsOf H) v d) (hTU : ∀ H v d, T (tupsOf H) v d → T H v d) (hpre : ∀ d, pre d = d :: (kids d).flatMap pre)
    (hi : ∀ L cd, interactive (PyProof.Rows.envOfC qual scope L f cd) = false) (hW : ∀ (s : Shared) (H : Hp) (cd : Value) (v : V), WBody (gpOf X N qual scope f cd H s) (T (tupsOf H)) kids v st1 test sA nm sB)
    (he : PE X e te) (hg : PG X (.Tuple elts kk tpos) g) (hb : PSs X bd tb) (hdb : (x == ("__debug__" : Str)) = false := by decide) (hsw : starEach [e] X.env = (false, eval e X.env) :: starEach [] X.env := by rfl)
    (hse : starEach [.Call (.Name x p2) [e] [] p3] X.env = (false, eval (.Call (.Name x p2) [e] [] p3) X.env) :: starEach [] X.env := by rfl) (hs : ∀ y, foldedSetIterable (.Call (.Name "enumerate" p1) [.Call (.Name x p2) [e] [] p3] [] p4) X.env y = pure y := by intro _; rfl) :
    PS X (.For (.Tuple elts kk tpos) (.Call (.Name "enumerate" p1) [.Call (.Name x p2) [e] [] p3] [] p4) bd [] pos) (tForW T pre te g tb) := by
  refine ⟨fun pins s σ H D I h => ?_⟩
  refine wpAny_For ?_ hs
  refine wpAny_Call_Name_kw (ld_blt I hge hme PyProof.Rows.boot_enumerate ?_)
  refine PyProof.Rows.callWith_type1 ?_ hse rfl
  rw [hse]
  show wpAny _ _ (spliced ((false, eval (.Call (.Name x p2) [e] [] p3) X.env) :: backTo p4 (starEach [] X.env))) _ _ s
  refine Calls.spliced_cons ?_
  refine wpAny_Call_Name_kw (ld_glob I hgw hm ?_ hdb)
  refine PySem.W.callWith_K (h₀ := X.base) I.ok.mod.kin F.kp (thn ((pa_cons he pa_nil hsw).run p3 pins s σ H (fun vs H1 => match vs with | [v] => ∃ d0, T H1 v d0 ∧ (pre d0).length ≤ sizeLine ∧ ∃ Pv : Nat → St → Hp → Prop, Pv 0 σ H1 ∧ (∀ i σ2 H2, Pv i σ2 H2 → TupExt H1 H2) ∧
    (∀ i x d σ2 H2 p, (pre d0)[i]? = some d → T H1 x d → Pv i σ2 H2 → H2 p = none → g (.ref p) σ2 (upd H2 p (.tup [.int (i : Nat), x])) fun σ3 H3 => tb { D with nx := Pv (i + 1), ct := Pv (i + 1), bk := D.nx } σ3 H3) ∧ ∀ σ2 H2, Pv (pre d0).length σ2 H2 → D.nx σ2 H2 | _ => False) I h) fun us s1 ⟨vs, H1, I1, r, q⟩ => ⟨I1.kIn, ?_⟩) hsw rfl
  obtain ⟨v, rfl⟩ : ∃ v, vs = [v] := by
    match vs, q with
    | [v], _ => exact ⟨v, rfl⟩
  obtain ⟨d0, hT, hz, Pv, p0, tx, step, done⟩ := q
  refine gen_made F S hnc hr hbi I1 r (by simpa using hps.symm) (fun a gi cdv s2 I2 ha hne hgen hgs hk hlt gst => ?_)
  refine Calls.spliced_nil (call_enumG hgen fun h' hen hk' => wpAny_pyIter_enum (s := { s2 with heap := h' }) hen ?_)
  have gd : (gpOf X N qual scope f cdv H1 s1).Good := gp_good I1 hnc
  have hpn : ∀ p ∈ X.pn ++ pins, p.1 < s1.heap.objs.size := fun p hp => Heap.lt_size (I1.pin p hp).1
  have I3 : Inv X pins σ H1 { s2 with heap := h' } := I2.kept (t' := s2.toks) hk'
  have TX0 : ∀ H2, TupExt H1 H2 → TX (gpOf X N qual scope f cdv H1 s1) H2 := fun H2 z => by
    refine ⟨fun b xs e => ?_, fun b o e => ?_⟩
    · obtain ⟨ys, e2, e3⟩ := tupsOf_at (show tupsOf H1 b = _ from e)
      cases e2
      rcases z b with q | ⟨q, _⟩
      · rw [q]
        exact e3
      · rw [e3] at q
        cases q
    · rcases z b with q | ⟨q, xs, e2⟩
      · rw [q] at e
        refine .inl ⟨I1.hok.lt e, ?_⟩
        show tupsOf H1 b = none ∨ tupsOf H1 b = some o
        by_cases ht : ∃ xs, o = .tup xs
        · obtain ⟨xs, rfl⟩ := ht
          exact .inr (tupsOf_tup e)
        · refine .inl ?_
          cases q2 : tupsOf H1 b with
          | none => rfl
          | some o2 =>
            obtain ⟨xs, rfl, e3⟩ := tupsOf_at q2
            rw [e] at e3
            cases e3
            exact absurd ⟨xs, rfl⟩ ht
      · rw [e] at e2
        cases e2
        by_cases hb : b < s1.heap.objs.size
        · exact .inl ⟨hb, .inl (tupsOf_none q)⟩
        · exact .inr ⟨Nat.le_of_not_lt hb, xs, rfl⟩
  have hsz : s1.heap.objs.size ≤ s2.heap.objs.size := Nat.le_of_lt hlt
  have nen : s2.heap.objs.size ≠ s1.heap.objs.size := Nat.ne_of_gt hlt
  obtain ⟨oa, nmv, qn, hoa, hca, hda, hsa⟩ := id hgen
  have nea : s2.heap.objs.size ≠ a := Nat.ne_of_gt (Heap.lt_size hoa)
  obtain ⟨sg0, hz0, JG, hlG⟩ := id gst
  have st : WAt (gpOf X N qual scope f cdv H1 s1) (T (tupsOf H1)) kids pre v (pre d0) s2.heap.objs.size a gi pins 0 σ H1 { s2 with heap := h' } := by
    refine ⟨I3, TX0 H1 (TupExt.refl H1), I2.hok.fresh (Nat.le_refl _), I1.hok.fresh ha, I1.hok.fresh (Nat.le_refl _), ⟨.none, hen⟩, ⟨oa, nmv, qn, hk' a oa hoa, hca, hda, hsa⟩, .fresh (.func body (PyProof.Rows.envOfC qual scope s1.heap.objs.size f cdv)), none, _, s2, hgs, gst, fun o ho => hk' _ o ho, fun l hl => absurd hl (by simp [GP.ls]), fun s3 s0 pins3 aw => ⟨rfl, ?_⟩⟩
    rw [ebody]
    rw [hN v] at aw
    exact walk_seg gd hpre (hW s1 H1 cdv v) (by exact S.co) (hi _ _) hz (by unfold itemsW; simp) (hTD H1 v d0 hT) s3 s0 pins3 aw
  exact ps_forW (G := gpOf X N qual scope f cdv H1 s1) gd hX hc hr.hd (by have := hr.depth; exact this) rfl hpn hsz ha nen hne nea hg hb st p0 (fun i σ2 H2 z => TX0 H2 (tx i σ2 H2 z)) (fun i x d σ2 H2 p q1 q2 q3 q4 => step i x d σ2 H2 p q1 (hTU H1 x d q2) q3 q4) done
end

/-! ### more rules: x is a truth, x == a text (x anything), t[::-1] of a tuple -/
section
open PyProof.Rows
theorem op_isB {X : Cx} : OpR X (compareOp .Is) (fun x y H Q => ∃ b, y = .bl b ∧ Q (.bl (decide (x = .bl b))) H) := by
  intro pins s σ H x y v u Q I rx ry h
  obtain ⟨b, rfl, q⟩ := h
  cases (show u = Value.bool b from ry)
  by_cases e : x = .bl b
  · subst e
    cases (show v = Value.bool b from rx)
    exact wpAny_is_self rfl ⟨.bl true, H, I, rfl, by simpa using q⟩
  · have n : plainIs v (.bool b) = true ∧ v ≠ .bool b := by
      cases x with
      | bl c =>
        cases (show v = Value.bool c from rx)
        exact ⟨rfl, fun z => e (by rw [Value.bool.inj z])⟩
      | non =>
        cases (show v = Value.none from rx)
        exact ⟨rfl, fun z => Value.noConfusion z⟩
      | int i =>
        obtain ⟨t, rfl⟩ := rx
        exact ⟨rfl, fun z => Value.noConfusion z⟩
      | str i =>
        obtain ⟨t, rfl⟩ := rx
        exact ⟨rfl, fun z => Value.noConfusion z⟩
      | ref a =>
        cases (show v = Value.ref a from rx)
        exact ⟨rfl, fun z => Value.noConfusion z⟩
      | byt i =>
        obtain ⟨t, rfl⟩ := rx
        exact ⟨rfl, fun z => Value.noConfusion z⟩
      | flt i =>
        obtain ⟨t, rfl⟩ := rx
        exact ⟨rfl, fun z => Value.noConfusion z⟩
      | ty i =>
        cases (show v = Value.type i from rx)
        exact ⟨rfl, fun z => Value.noConfusion z⟩
    exact wpAny_is_other n.1 n.2 ⟨.bl false, H, I, rfl, by simpa [e] using q⟩
theorem op_eqS {X : Cx} (hu : X.A.units < cLine) : OpR X (compareOp .Eq) (fun x y H Q => ∃ (z : Str) (d : PyData), y = .str z ∧ Dp X.K H x d ∧ d.canLay0 = true ∧ PyData.strOk z = true ∧ Q (.bl (PyData.eqv d (.str z))) H) := by
  intro pins s σ H x y v u Q I rx ry h
  obtain ⟨z, d, rfl, hd, ld, lz, q⟩ := h
  obtain ⟨as, r1⟩ := Dp.reads I d x v hd rx
  obtain ⟨bs, r2⟩ := Dp.reads I (.str z) (.str z) u (.str z) ry
  refine SeqAt.compareEq_reads r1 r2 ld lz ?_ ⟨.bl _, H, I, rfl, q⟩
  have e : (PyData.str z).depth = 0 := by simp [PyData.depth]
  rw [e, Nat.min_zero]
  exact hu
/-! t[::-1] -/
theorem sliceApplied_rev {prog : Program} {w : World} {A : Around} {E : Value → Shared → Prop} {s : Shared} {sl : Addr} {vs : Value} {n : Nat} {Q : Int × Int × Nat → Shared → Prop} (hs : s.heap.IsSliceOf sl .none .none vs) (ps : IsPart vs (some (-1)))
    (h : Q ((n : Int) - 1, -1, n) s) : wpAny (model prog w) A (Builtin.Slice.sliceApplied (.ref sl) (pure (n : Int))) Q E s := by
  obtain ⟨os, hos, hcs, hds⟩ := id hs
  unfold Builtin.Slice.sliceApplied Builtin.Slice.sliceFields
  refine wpAny_bind (wpAny_bind (wpAny_field hos hds (x := .none) rfl (wpAny_bind (wpAny_field hos hds (x := .none) rfl (wpAny_bind (wpAny_field hos hds (x := vs) rfl (wpAny_pure ?_)))))))
  refine wpAny_bind (HT.slicePart_ ps ?_)
  show wpAny _ _ (if ((-1 : Int) == 0) = true then _ else _) _ _ s
  rw [if_neg (by decide)]
  refine wpAny_bind (PyProof.Rows.slicePart_none (wpAny_bind (PyProof.Rows.slicePart_none (wpAny_bind (wpAny_pure ?_)))))
  show wpAny _ _ (match Builtin.Slice.sliceAdjust none none (-1) (n : Int) with | (lo, hi) => pure (lo, (-1 : Int), Builtin.Slice.slicePlaces lo hi (-1))) _ _ s
  have e1 : Builtin.Slice.sliceAdjust none none (-1) (n : Int) = ((n : Int) - 1, -1) := rfl
  rw [e1]
  show wpAny _ _ (pure ((n : Int) - 1, (-1 : Int), Builtin.Slice.slicePlaces ((n : Int) - 1) (-1) (-1))) _ _ s
  have e2 : Builtin.Slice.slicePlaces ((n : Int) - 1) (-1) (-1) = n := by
    unfold Builtin.Slice.slicePlaces
    rw [if_neg (by decide)]
    by_cases c : (n : Int) - 1 > -1
    · rw [if_pos c]
      have : ((n : Int) - 1 - -1 - 1) / (- -1) = (n : Int) - 1 := by
        rw [show (- -1 : Int) = 1 by decide, Int.ediv_one]
        omega
      omega
    · rw [if_neg c]
      omega
  rw [e2]
  exact wpAny_pure h
theorem pick_rev (xs : Array Value) : ((List.range xs.size).filterMap fun (k : Nat) => xs[(((xs.size : Int) - 1) + (k : Int) * (-1)).toNat]?).toArray = xs.toList.reverse.toArray := by
  congr 1
  have fm : ∀ (f : Nat → Option Value) (l : List Nat), l.filterMap f = (l.map f).filterMap id := fun f l => by rw [List.filterMap_map]; rfl
  have e : (List.range xs.size).map (fun (k : Nat) => xs[(((xs.size : Int) - 1) + (k : Int) * (-1)).toNat]?) = (List.range xs.size).map fun (k : Nat) => xs[xs.size - 1 - k]? := by
    apply List.map_congr_left
    intro k hk
    have := List.mem_range.mp hk
    show xs[_]? = xs[xs.size - 1 - k]?
    congr 1
    omega
  rw [fm, e, ← fm]
  have e2 : (List.range xs.size).filterMap (fun (k : Nat) => xs[xs.size - 1 - k]?) = ((List.range xs.size).map fun k => xs.size - 1 - k).filterMap (fun k => xs[k]?) := by
    rw [List.filterMap_map]
    rfl
  rw [e2, PySem.W.krv_range, List.filterMap_reverse, PySem.W.krv_all]
theorem getItem_tuple_rev {prog : Program} {w : World} {A : Around} {E : Value → Shared → Prop} {s : Shared} {t sl : Addr} {items : Array Value} {vs : Value} {Q : Value → Shared → Prop} (ht : IsTup s.heap t items) (hs : s.heap.IsSliceOf sl .none .none vs) (ps : IsPart vs (some (-1)))
    (h : Q (.ref s.heap.objs.size) { s with heap := s.heap.push { cls := .type "tuple", data := .seq items.toList.reverse.toArray } })
    (hsz : items.size ≤ sizeLine) : wpAny (model prog w) A (getItem (.ref t) (.ref sl)) Q E s := by
  have hrev : sizeOk (.seq items.toList.reverse.toArray) := by
    show items.toList.reverse.toArray.size ≤ sizeLine
    rw [List.size_toArray, List.length_reverse, Array.length_toList]
    exact hsz
  obtain ⟨os, hos, hcs, hds⟩ := id hs
  have hTs : s.TypeIs (.ref sl) "slice" := ⟨os, hos, hcs⟩
  unfold getItem
  try with_reducible refine wpAny_holding ?_
  first | refine wpAny_bind (wpAny_pure ?_) | skip
  refine wpAny_bind (wpAny_sequenceKey ht.typeIs (by decide) ?_)
  refine wpAny_bind (wpAny_callSpecial?_slot (name := Str.ofString "__getitem__") ht.typeIs PyProof.Rows.slot_tuple_getitem
    (wpAny_call_entry PyProof.Rows.slot_tuple_getitem ht.typeIs entry_tuple_getitem ?_ (args_tuple_getitem _ _)))
  show wpAny _ _ (Builtin.Tuple.tupleItemsOf (.ref t) >>= _) _ _ s
  refine wpAny_bind (tupleItemsOf_ ht ?_)
  refine wpAny_bind (wpAny_typeOf hTs ?_)
  rw [if_pos (by decide)]
  refine wpAny_bind (sliceApplied_rev hs ps ?_)
  have hno : ¬ (((((items.size : Nat) : Int) - 1) == 0 && (-1 : Int) == 1 && items.size == items.size) = true) := by
    intro q
    rw [Bool.and_eq_true, Bool.and_eq_true] at q
    exact absurd q.1.2 (by decide)
  show wpAny _ _ (if ((((items.size : Nat) : Int) - 1) == 0 && (-1 : Int) == 1 && items.size == items.size) = true then _ else _) _ _ s
  rw [if_neg hno, pick_rev]
  first
    | exact wpAny_bind (m := Builtin.Tuple.tupleExact _) (wpAny_newObj_type (wpAny_pure ⟨_, rfl, wpAny_pure h⟩) hrev)
    | exact wpAny_bind (m := Builtin.Tuple.tupleExact _) (wpAny_newObj_type (wpAny_bind (wpAny_pure (wpAny_pure ⟨_, rfl, wpAny_pure h⟩))) hrev)
    | exact wpAny_bind (wpAny_bind (m := Builtin.Tuple.tupleExact _) (wpAny_newObj_type (wpAny_pure (wpAny_pure ⟨_, rfl, wpAny_pure h⟩)) hrev))
    | exact wpAny_bind (wpAny_bind (m := Builtin.Tuple.tupleExact _) (wpAny_newObj_type (wpAny_pure ⟨_, rfl, wpAny_pure h⟩) hrev))
def tRevT (K : Frg) (te : TE) : TE := fun σ H Q => te σ H fun x H1 => ∃ a xs, x = .ref a ∧ SqT K H1 a xs ∧ ∀ p, H1 p = none → Q (.ref p) (upd H1 p (.tup xs.reverse))
theorem pe_revT {X : Cx} {e : Expr} {te : TE} {k : Nat} {p1 p2 p3 pos : Pos} (he : PE X e te) : PE X (.Subscript e (.Slice none none (some (.UnaryOp .USub (.Constant (.int 1) k p1) p2)) p3) pos) (tRevT X.K te) := by
  refine ⟨fun pins s σ H Q I h => ?_⟩
  refine Subscript_ (thn (he.run pins s σ H _ I h) fun v s1 ⟨x, H1, I1, r1, q1⟩ => ?_)
  obtain ⟨a, xs, ex, hx, q⟩ := q1
  subst ex
  cases r1
  have hst : PO X (some (.UnaryOp .USub (.Constant (.int 1) k p1) p2)) (tPart (tUn (rU fun i => .int (-i)) (tC (.int 1)))) := po_some (pe_un un_neg pe_int)
  have hno : ∀ {s2 : Shared} {H2 : Hp} {R : Value → Shared → Prop} {E : Value → Shared → Prop}, R .none s2 → wpAny (model X.prog X.w) X.A (evalPart none X.env) R E s2 := fun q => wpAny_pure q
  refine wpAny_Slice (hno (H2 := H1) ?_)
  refine hno (H2 := H1) ?_
  refine thn (hst.run pins s1 σ H1 (fun o H4 => o = some (-1) ∧ H4 = H1) I1 ⟨1, rfl, -1, rfl, rfl, rfl⟩) fun vs s4 ⟨o, H4, I4, ps, eo, e4⟩ => ?_
  subst eo e4
  have I5 : Inv X pins σ H4 { s4 with heap := s4.heap.push { cls := .type "slice", data := .fields #[.none, .none, vs] } } := I4.kept (t' := s4.toks) fun b ob q => Heap.get?_push_of_some _ q
  obtain ⟨its, r, ht, hz⟩ := I5.tuple hx
  have hlen := r.length
  show wpAny (model X.prog X.w) X.A (subscriptTail e (.Slice none none (some (.UnaryOp .USub (.Constant (.int 1) k p1) p2)) p3) (.ref a) (.ref s4.heap.objs.size)) (EP X pins σ Q) X.xe { s4 with heap := s4.heap.push { cls := .type "slice", data := .fields #[.none, .none, vs] } }
  refine tail_any (ops := [.ref a, .ref s4.heap.objs.size]) ht.typeIs PyProof.Rows.slot_tuple_getitem.lookup ?_ (by with_unfolding_all rfl)
  refine getItem_tuple_rev ht (Heap.IsSliceOf.new _ .none .none vs) ps ?_ (by rw [List.size_toArray]; omega)
  refine ⟨.ref _, _, I5.laid (t' := s4.toks) (o := .tup xs.reverse) (fun b ob q => Heap.get?_push_of_some _ q) (Nat.le_refl _) ?_, rfl, q _ (I5.hok.fresh (Nat.le_refl _))⟩
  exact ⟨by rw [List.length_reverse]; exact hz, _, r.reverse, IsTup.new _ _⟩
end
section
variable {σ : St} {H : Hp} {Q : VK} {K : Frg}
theorem r_revT {te : TE} (h : te σ H fun x H1 => ∃ a xs, x = .ref a ∧ SqT K H1 a xs ∧ ∀ p, H1 p = none → Q (.ref p) (upd H1 p (.tup xs.reverse))) : tRevT K te σ H Q := h
end

/-! ### texts and octets, pure -/
def asc (x : List Nat) : List Int := x.map fun (c : Nat) => Int.ofNat c
def enc1 (c : Int) : List Int :=
  if c < 128 then [c] else if c < 2048 then [192 + c / 64, 128 + c % 64] else if c < 65536 then [224 + c / 4096, 128 + c / 64 % 64, 128 + c % 64]
  else [240 + c / 262144, 128 + c / 4096 % 64, 128 + c / 64 % 64, 128 + c % 64]
def encs (cs : List Int) : List Int := cs.flatMap enc1
def mark8 (m : Int) : Int := if m = 1 then 192 else if m = 2 then 224 else 240
/-- a list or tuple of numbers at a -/
def RowAt (H : Hp) (a : Addr) (zs : List Int) : Prop := H a = some (.lst (zs.map V.int)) ∨ H a = some (.tup (zs.map V.int))
def Point (c : Int) : Prop := 0 ≤ c ∧ c ≤ 1114111 ∧ (c < 55296 ∨ 57344 ≤ c)
def mm8 (c : Int) : Int := if c < 2048 then 1 else if c < 65536 then 2 else 3
theorem mm8_is (c : Int) : mm8 c = 1 ∨ mm8 c = 2 ∨ mm8 c = 3 := by
  unfold mm8
  split
  · exact .inl rfl
  · split
    · exact .inr (.inl rfl)
    · exact .inr (.inr rfl)
theorem enc_low {c : Int} (h : c < 128) : enc1 c = [c] := if_pos h
theorem enc_long {c : Int} (hc : 128 ≤ c) : (c < 2048 ∧ mm8 c = 1 ∧ enc1 c = [192 + c / 64, 128 + c % 64]) ∨ (2048 ≤ c ∧ c < 65536 ∧ mm8 c = 2 ∧ enc1 c = [224 + c / 4096, 128 + c / 64 % 64, 128 + c % 64]) ∨
    (65536 ≤ c ∧ mm8 c = 3 ∧ enc1 c = [240 + c / 262144, 128 + c / 4096 % 64, 128 + c / 64 % 64, 128 + c % 64]) := by
  have h0 : ¬ c < 128 := by omega
  by_cases c1 : c < 2048
  · refine .inl ⟨c1, if_pos c1, ?_⟩
    unfold enc1
    rw [if_neg h0, if_pos c1]
  · by_cases c2 : c < 65536
    · refine .inr (.inl ⟨by omega, c2, ?_, ?_⟩)
      · unfold mm8
        rw [if_neg c1, if_pos c2]
      · unfold enc1
        rw [if_neg h0, if_neg c1, if_pos c2]
    · refine .inr (.inr ⟨by omega, ?_, ?_⟩)
      · unfold mm8
        rw [if_neg c1, if_neg c2]
      · unfold enc1
        rw [if_neg h0, if_neg c1, if_neg c2]
theorem long_zero {c : Int} (hc : 128 ≤ c) : [mark8 (mm8 c) + c / 2 ^ (6 * mm8 c).toNat] = (enc1 c).take 1 := by
  rcases enc_long hc with ⟨_, e1, e2⟩ | ⟨_, _, e1, e2⟩ | ⟨_, e1, e2⟩ <;> rw [e1, e2] <;> rfl
theorem long_step {c : Int} {i : Nat} (hc : 128 ≤ c) (hi : i < (mm8 c).toNat) : (enc1 c).take (i + 1) ++ [128 + c / 2 ^ (6 * mm8 c - 6 + (i : Int) * (-6)).toNat % 64] = (enc1 c).take (i + 2) := by
  rcases enc_long hc with ⟨_, e1, e2⟩ | ⟨_, _, e1, e2⟩ | ⟨_, e1, e2⟩
  · rw [e1] at hi ⊢
    rw [e2]
    have e : i = 0 := by
      have : i < 1 := hi
      omega
    subst e
    show [192 + c / 64, 128 + c / 1 % 64] = [192 + c / 64, 128 + c % 64]
    rw [Int.ediv_one]
  · rw [e1] at hi ⊢
    rw [e2]
    have e : i = 0 ∨ i = 1 := by
      have : i < 2 := hi
      omega
    rcases e with e | e
    · subst e
      rfl
    · subst e
      show [224 + c / 4096, 128 + c / 64 % 64, 128 + c / 1 % 64] = [224 + c / 4096, 128 + c / 64 % 64, 128 + c % 64]
      rw [Int.ediv_one]
  · rw [e1] at hi ⊢
    rw [e2]
    have e : i = 0 ∨ i = 1 ∨ i = 2 := by
      have : i < 3 := hi
      omega
    rcases e with e | e | e
    · subst e
      rfl
    · subst e
      rfl
    · subst e
      show [240 + c / 262144, 128 + c / 4096 % 64, 128 + c / 64 % 64, 128 + c / 1 % 64] = [240 + c / 262144, 128 + c / 4096 % 64, 128 + c / 64 % 64, 128 + c % 64]
      rw [Int.ediv_one]
theorem long_all {c : Int} (hc : 128 ≤ c) : (enc1 c).take ((mm8 c).toNat + 1) = enc1 c := by
  rcases enc_long hc with ⟨_, e1, e2⟩ | ⟨_, _, e1, e2⟩ | ⟨_, e1, e2⟩ <;> rw [e1, e2] <;> rfl
theorem mark8_at (m : Int) (h : m = 1 ∨ m = 2 ∨ m = 3) : atI ([0, 192, 224, 240].map V.int) m = some (.int (mark8 m)) := by
  rcases h with e | e | e <;> rw [e] <;> rfl
theorem len_enc1 (c : Int) : 1 ≤ (enc1 c).length ∧ (enc1 c).length ≤ 4 := by
  by_cases h : c < 128
  · rw [enc_low h]
    simp
  · rcases enc_long (by omega : 128 ≤ c) with ⟨_, _, e2⟩ | ⟨_, _, _, e2⟩ | ⟨_, _, e2⟩ <;> rw [e2] <;> simp
theorem len_encs : ∀ cs : List Int, (encs cs).length ≤ 4 * cs.length
  | [] => Nat.le_refl _
  | c :: cs => by
    have h := len_encs cs
    have g := (len_enc1 c).2
    show (enc1 c ++ encs cs).length ≤ _
    rw [List.length_append, List.length_cons]
    omega
theorem encs_snoc (cs : List Int) (c : Int) : encs (cs ++ [c]) = encs cs ++ enc1 c := by
  unfold encs
  rw [List.flatMap_append]
  simp
theorem row_same {H H' : Hp} {a : Addr} {zs : List Int} (h : RowAt H a zs) (s : Same H H') : RowAt H' a zs := h.elim (fun h => .inl (s _ _ h)) fun h => .inr (s _ _ h)

local macro_rules | `(tactic| walk_at "ne") => `(tactic| first
  | assumption
  | (apply Ne.symm; assumption)
  | (refine ne_of_none ?_ ?_; rotate_left; assumption; walk_at "hl")
  | (apply Ne.symm; refine ne_of_none ?_ ?_; rotate_left; assumption; walk_at "hl"))
local macro_rules | `(tactic| walk_at "nm") => `(tactic| first
  | assumption
  | exact nm_nil
  | (refine nm_cons ?_ ?_; walk_at "ne"; walk_at "nm")
  | (refine nm_app ?_ ?_ <;> walk_at "nm"))
local macro_rules | `(tactic| walk_at "hl") => `(tactic| first
  | assumption
  | exact upd_same
  | (refine (upd_ne ?_).trans ?_; walk_at "ne"; walk_at "hl")
  | (refine Eb.get (by assumption) ?_ ?_; walk_at "ne"; walk_at "hl")
  | (refine Ch.get (by assumption) ?_ ?_; walk_at "nm"; walk_at "hl")
  | (refine Same.get (by assumption) ?_; walk_at "hl")
  | (refine Ch.tup (by assumption) ?_; walk_at "hl"))
local macro_rules | `(tactic| walk_at "ms") => `(tactic| first
  | assumption
  | exact ms_nil
  | (refine ms_cons ?_ ?_; (first | (left; simp; done) | (right; assumption)); walk_at "ms")
  | (refine ms_app ?_ ?_ <;> walk_at "ms"))
local macro_rules | `(tactic| walk_at "ch") => `(tactic| first
  | assumption
  | exact Ch.refl
  | (refine Ch.eb (by assumption) (by simp; done) ?_; walk_at "ch")
  | (refine Ch.ebn (by assumption) (by assumption) ?_; walk_at "ch")
  | (refine Ch.ch (by assumption) ?_ ?_; walk_at "ms"; walk_at "ch")
  | (refine Ch.same (by assumption) ?_; walk_at "ch"))
local macro_rules | `(tactic| walk_at "rh1") => `(tactic| first
  | (with_reducible refine r_seq ?_)
  | (with_reducible refine r_asg ?_)
  | (with_reducible refine r_name ?_)
  | ((with_reducible apply r_var); (· rfl))
  | (with_reducible refine r_c ?_)
  | (with_reducible refine r_op ?_)
  | (with_reducible refine r_I0 ?_)
  | (with_reducible refine r_eqI ?_)
  | (with_reducible refine r_neI ?_)
  | (with_reducible refine r_eqS ?_)
  | (with_reducible refine r_neS ?_)
  | (with_reducible refine r_cons ?_)
  | (with_reducible refine r_nil ?_)
  | (with_reducible refine r_test ?_)
  | (with_reducible refine r_B ?_)
  | (with_reducible refine r_bl ?_)
  | (with_reducible refine r_ret ?_)
  | (with_reducible refine r_drop ?_)
  | (with_reducible refine r_un ?_)
  | (with_reducible refine r_U ?_)
  | (with_reducible refine r_CB ?_)
  | (with_reducible refine r_call ?_)
  | (with_reducible refine r_retN ?_)
  | (with_reducible refine r_next ?_)
  | (with_reducible refine r_brk ?_)
  | (with_reducible refine r_and ?_)
  | (with_reducible refine r_or ?_)
  | (with_reducible refine r_not ?_)
  | (with_reducible refine r_andV ?_)
  | (with_reducible refine r_orV ?_)
  | (with_reducible refine r_notV ?_)
  | (with_reducible refine r_chain ?_)
  | (with_reducible refine r_iteF ?_)
  | (with_reducible refine r_iteT ?_)
  | (with_reducible refine r_iteNT ?_)
  | (with_reducible refine r_iteNF ?_)
  | ((with_reducible apply r_I); (· first | decide | exact ⟨by decide, by decide⟩ | exact .inr ⟨by decide, by decide⟩ | exact .inl ⟨by decide, by decide⟩ | exact ⟨by decide, by decide, by decide⟩))
  | (with_reducible refine r_bm ?_)
  | (with_reducible refine r_bm0 ?_)
  | (with_reducible refine r_sub ?_)
  | (with_reducible refine r_yes ?_)
  | (with_reducible refine r_fld ?_)
  | (with_reducible refine r_sfld ?_)
  | (with_reducible refine r_meth ?_)
  | (with_reducible refine r_prop ?_)
  | (with_reducible refine r_make ?_)
  | (with_reducible refine r_gcons ?_)
  | (with_reducible refine r_gnil ?_)
  | (with_reducible refine r_rfl ?_)
  | (with_reducible refine r_for ?_)
  | (with_reducible refine r_rng1 ?_)
  | (with_reducible refine r_int1 ?_)
  | (with_reducible refine r_abs ?_)
  | (with_reducible refine r_tup ?_)
  | (with_reducible refine r_lst ?_))
local macro_rules | `(tactic| walk_at "rh1") => `(tactic| first
  | (with_reducible refine r_sl ?_)
  | (with_reducible refine r_part ?_)
  | (with_reducible refine r_some ?_)
  | (with_reducible refine r_nopart ?_)
  | (with_reducible refine r_rng2 ?_)
  | (with_reducible refine r_rng3 ?_)
  | (with_reducible refine r_itL ?_)
  | (with_reducible refine r_itT ?_)
  | (with_reducible refine r_lcT ?_)
  | (with_reducible refine r_lcL ?_)
  | (with_reducible refine r_lc0 ?_))

local macro_rules | `(tactic| walk_at "fcl") => `(tactic| first | fail)
local macro_rules | `(tactic| walk_at "fna") => `(tactic| first | fail)
local macro_rules | `(tactic| walk_at "flk") => `(tactic| first | fail)
local macro_rules | `(tactic| walk_at "ffw") => `(tactic| first | fail)
local macro_rules | `(tactic| walk_at "fpt") => `(tactic| first | fail)
local macro_rules | `(tactic| walk_at "fno") => `(tactic| first | skip)
local macro_rules | `(tactic| walk_at "rf1") => `(tactic| first | (with_reducible refine r_lstE ?_) | (with_reducible refine r_tupE ?_) | (with_reducible refine r_dnwE ?_) | (with_reducible refine r_orT ?_) | (with_reducible refine r_din ?_) | (with_reducible refine r_dput ?_) | walk_at "rd1" | ((with_reducible apply r_fget); walk_at "hl"; walk_at "fcl"; walk_at "fna"; walk_at "flk") | ((with_reducible apply r_mget); walk_at "hl"; walk_at "fno") | ((with_reducible apply r_pget); walk_at "hl"))
local macro_rules | `(tactic| walk_at "rf") => `(tactic| repeat (walk_at "rf1"))
local macro_rules | `(tactic| walk_at "rg1") => `(tactic| first | (with_reducible refine r_lstE ?_) | (with_reducible refine r_tupE ?_) | (with_reducible refine r_dnwE ?_) | (with_reducible refine r_orT ?_) | (with_reducible refine r_din ?_) | (with_reducible refine r_dput ?_) | walk_at "ri1" | ((with_reducible apply r_fget); walk_at "hl"; walk_at "fcl"; walk_at "fna"; walk_at "flk") | ((with_reducible apply r_mget); walk_at "hl"; walk_at "fno") | ((with_reducible apply r_pget); walk_at "hl"))
local macro_rules | `(tactic| walk_at "rk1") => `(tactic| first | (with_reducible refine r_lstE ?_) | (with_reducible refine r_tupE ?_) | (with_reducible refine r_dnwE ?_) | (with_reducible refine r_orT ?_) | (with_reducible refine r_din ?_) | (with_reducible refine r_dput ?_) | walk_at "rh1" | ((with_reducible apply r_fget); walk_at "hl"; walk_at "fcl"; walk_at "fna"; walk_at "flk") | ((with_reducible apply r_mget); walk_at "hl"; walk_at "fno") | ((with_reducible apply r_pget); walk_at "hl"))
local macro_rules | `(tactic| walk_at "rk") => `(tactic| repeat (walk_at "rk1"))
local macro_rules | `(tactic| walk_at "rg") => `(tactic| repeat (walk_at "rg1"))
local macro_rules | `(tactic| walk_at "fs") => `(tactic| (apply r_fsetE; walk_at "hl"; walk_at "fcl"; walk_at "fna"; walk_at "ffw"; walk_at "fpt"))

/-! ### the law's draws: values of all kinds, numbers far and large -/









def Kp (k : List Int) : Prop := k.length ≤ 200 ∧ ∀ c ∈ k, Point c
def Oc (os : List Int) : Prop := os.length ≤ 300 ∧ ∀ c ∈ os, 0 ≤ c ∧ c ≤ 255
/-- a number in normal form, not too large -/
def Nk (m e : Int) : Prop := ((m = 0 ∧ e = 0) ∨ m % 10 ≠ 0) ∧ m.natAbs < 10 ^ 1950 ∧ -2000000000 ≤ e ∧ e ≤ 2000000000
def sp__law_big (K : Frg) : Sp := sp__law_next K
def sp__law_normal : Sp := sp2 fun a b H Q _ => ∃ m e : Int, a = .int m ∧ b = .int e ∧ m.natAbs < 10 ^ 1950 ∧ ∀ (p : Addr) (m' e' : Int) (H' : Hp), nrm m e = (m', e') → H p = none → H' p = some (.tup [.int m', .int e']) → Same H H' → Q (.ref p) H'
def sp__law_points (K : Frg) : Sp := sp1 fun a H Q _ => ∃ S l, a = .ref S.a ∧ LB K S l H ∧ ∀ (p : Addr) (ps : List Int) (H' : Hp), H' p = some (.tup (ps.map V.int)) → Kp ps → LB K S l H' → Keep S H H' → Q (.ref p) H'
def sp__law_octets (K : Frg) : Sp := sp1 fun a H Q _ => ∃ S l, a = .ref S.a ∧ LB K S l H ∧ ∀ (p : Addr) (os : List Int) (H' : Hp), H' p = some (.tup (os.map V.int)) → Oc os → LB K S l H' → Keep S H H' → Q (.ref p) H'
theorem keep_away {S : SC} {H H' : Hp} {D : Addr} {o : HO} (k : Keep S H H') (n : H D = none) : Keep S H (upd H' D o) := fun b u hb h => by
  rw [upd_ne (fun e => by rw [e, n] at h; cases h)]
  exact k b u hb h
theorem LB.away {K : Frg} {S : SC} {H H1 : Hp} {l l1 : Int} (L1 : LB K S l1 H1) {D : Addr} (hD : H1 D = none) (L : LB K S l H) (o : HO) : LB K S l (upd H D o) := by
  refine ⟨L1.ls.away hD L.ls o, ?_⟩
  obtain ⟨_, k1, f1, e1⟩ := L1
  obtain ⟨_, k, f, e⟩ := L
  exact ⟨k, f, (upd_ne (fun z => by rw [z, hD] at e1; cases e1)).trans e⟩
def menu12 : List Int := [34, 92, 47, 127, 128, 2047, 2048, 55295, 57344, 65535, 65536, 1114111]
theorem menu12_in : ∀ v ∈ menu12, Point v := by
  intro v hv
  have h : ∀ v ∈ menu12, 0 ≤ v ∧ v ≤ 1114111 ∧ (v < 55296 ∨ 57344 ≤ v) := by decide
  exact h v hv
theorem pt_low {v : Int} (h0 : 0 ≤ v) (h1 : v < 55296) : Point v := ⟨h0, by omega, .inl h1⟩
/-- leaves -/
inductive Lc : Str → List PyData → Prop
  | number (m e : Int) (h : Nk m e) : Lc "number" [.int m, .int e]
  | bytes (os : List Int) (h : Oc os) : Lc "bytes" [kd os]
  | text (ps : List Int) (h : Kp ps) : Lc "text" [kd ps]
  | truth (b : Bool) : Lc "truth" [.bool b]
  | null : Lc "null" []
def KsOk (ks : List Str) : Prop := 0 < ks.length ∧ ks.length ≤ 100 ∧ ∀ k ∈ ks, k = "null" ∨ k = "truth" ∨ k = "number" ∨ k = "bytes" ∨ k = "text"
mutual
/-- values with such leaves -/
def Vl.gf : Nat → Vl → Prop
  | _, .lf k r => Lc k r
  | 0, .ls _ => False
  | 0, .mp _ => False
  | n + 1, .ls xs => xs.length ≤ 49 ∧ gfL n xs
  | n + 1, .mp es => es.length ≤ 49 ∧ (es.map (·.1)).Pairwise (fun x y => HT.lexLt x y = true) ∧ (∀ e ∈ es, Kp e.1) ∧ gfM n es
def gfL : Nat → List Vl → Prop
  | _, [] => True
  | n, x :: xs => x.gf n ∧ gfL n xs
def gfM : Nat → List (List Int × Vl) → Prop
  | _, [] => True
  | n, (_, v) :: es => v.gf n ∧ gfM n es
end
theorem gfL_mem : ∀ {n : Nat} {xs : List Vl}, gfL n xs → ∀ x ∈ xs, x.gf n
  | _, [], _, x, h => absurd h (by simp)
  | _, y :: ys, h, x, hx => by
    rcases List.mem_cons.mp hx with e | e
    · rw [e]
      exact h.1
    · exact gfL_mem h.2 x e
theorem gfL_of : ∀ {n : Nat} {xs : List Vl}, (∀ x ∈ xs, x.gf n) → gfL n xs
  | _, [], _ => trivial
  | _, y :: ys, h => ⟨h _ (List.mem_cons_self ..), gfL_of fun e he => h e (List.mem_cons_of_mem _ he)⟩
theorem gfM_of : ∀ {n : Nat} {es : List (List Int × Vl)}, (∀ e ∈ es, e.2.gf n) → gfM n es
  | _, [], _ => trivial
  | _, (k, v) :: ys, h => ⟨h _ (List.mem_cons_self ..), gfM_of fun e he => h e (List.mem_cons_of_mem _ he)⟩
theorem gfM_mem : ∀ {n : Nat} {es : List (List Int × Vl)}, gfM n es → ∀ e ∈ es, e.2.gf n
  | _, [], _, x, h => absurd h (by simp)
  | _, (k, v) :: ys, h, x, hx => by
    rcases List.mem_cons.mp hx with e | e
    · rw [e]
      exact h.1
    · exact gfM_mem h.2 x e
/-- what the budget l, gone down to l', allows for a value of size n -/
def Bud (l l' : Int) (n : Nat) : Prop := (n : Int) + 1 ≤ 2 * (l - l') ∧ l - l' ≤ 1 + 49 * (max l 0 - max l' 0)
/-- the same for k values, of size n together -/
def BudL (l l' : Int) (n k : Nat) : Prop := (n : Int) + k ≤ 2 * (l - l') ∧ l - l' ≤ k + 49 * (max l 0 - max l' 0)
theorem budL_nil (l : Int) : BudL l l 0 0 := by unfold BudL; omega
theorem budL_cons {l l1 l2 : Int} {n m k : Nat} (a : BudL l l1 n k) (b : Bud l1 l2 m) : BudL l l2 (n + m) (k + 1) := by
  unfold BudL Bud at *
  omega
theorem bud_node {l l' : Int} {n k : Nat} (hl : 0 < l - 1) (hk : k ≤ 49) (a : BudL (l - 1) l' n k) : Bud l l' (1 + n) := by
  unfold BudL at a
  unfold Bud
  omega
theorem bud_map {l l' : Int} {n k : Nat} (hl : 0 < l - 1) (hk : k ≤ 49) (a : BudL (l - 1) l' n k) : Bud l l' (1 + (n + k)) := by
  unfold BudL at a
  unfold Bud
  omega
theorem bud_leaf {l : Int} {n : Nat} (h : n ≤ 1) : Bud l (l - 1) n := by
  unfold Bud
  omega
mutual
/-- how large it is -/
def vsz : Vl → Nat
  | .ls xs => 1 + vszL xs
  | .mp es => 1 + vszM es
  | .lf _ _ => 1
def vszL : List Vl → Nat
  | [] => 0
  | x :: xs => vsz x + vszL xs
def vszM : List (List Int × Vl) → Nat
  | [] => 0
  | (_, v) :: es => 1 + vsz v + vszM es
end
theorem gfL_app {n : Nat} {xs ys : List Vl} (h1 : gfL n xs) (h2 : gfL n ys) : gfL n (xs ++ ys) := gfL_of fun x hx => by
  rcases List.mem_append.mp hx with q | q
  · exact gfL_mem h1 x q
  · exact gfL_mem h2 x q
theorem gf_leaf {k : Str} {r : List PyData} (h : Lc k r) (n : Nat) : (Vl.lf k r).gf n := by cases n <;> exact h
theorem vszL_app : ∀ (xs ys : List Vl), vszL (xs ++ ys) = vszL xs + vszL ys
  | [], ys => (Nat.zero_add _).symm
  | x :: xs, ys => by
    show vsz x + vszL (xs ++ ys) = vsz x + vszL xs + vszL ys
    rw [vszL_app xs ys, Nat.add_assoc]
theorem vszM_sum : ∀ es : List (List Int × Vl), vszM es = (es.map fun e => vsz e.2).sum + es.length
  | [] => rfl
  | (k, v) :: es => by
    show 1 + vsz v + vszM es = (vsz v + (es.map fun e => vsz e.2).sum) + (es.length + 1)
    rw [vszM_sum es]
    omega
/-- an entry and its value -/
def EvF (K : Frg) (H : Hp) (n : Nat) (e : Ent × Vl) : Prop := EntAt H e.1 ∧ Tp H (.ref e.1.u) e.2.dat ∧ e.2.gf n ∧ Kp e.1.k
theorem EvF.tk {K : Frg} {H H' : Hp} {n : Nat} {e : Ent × Vl} (k : Tk H H') (h : EvF K H n e) : EvF K H' n e := ⟨h.1.tk k, Tp.tk k _ _ h.2.1, h.2.2⟩
theorem tpa_entF {K : Frg} {H : Hp} {n : Nat} {zs : List (Ent × Vl)} (h : ∀ e ∈ zs, EvF K H n e) : TpAll H ((zs.map fun e => e.1).map fun e => V.ref e.t) (datM (zs.map fun e => (e.1.k, e.2))) := by
  rw [datM_map, List.map_map, List.map_map]
  exact tpa_map fun e he => .tup (h e he).1.1 (.cons (tp_kd (h e he).1.2) (.cons (h e he).2.1 .nil))
def sp__law_number (K : Frg) : Sp := sp1 fun a H Q _ => ∃ S l, a = .ref S.a ∧ LB K S l H ∧ ∀ (v : V) (m e : Int) (H' : Hp), Nk m e → Tp H' v (.tuple [.str "number", .int m, .int e]) → LB K S l H' → Keep S H H' → Q v H'
def sp__law_leaf (K : Frg) : Sp := sp2 fun a b H Q _ => ∃ S l kl ks, a = .ref S.a ∧ b = .ref kl ∧ kl ≠ S.a ∧ H kl = some (.lst (ks.map V.str)) ∧ KsOk ks ∧ LB K S l H ∧ ∀ (v : V) (k : Str) (r : List PyData) (H' : Hp), Lc k r → Tp H' v (.tuple (.str k :: r)) → LB K S l H' → Keep S H H' → Q v H'
def sp__law_value (K : Frg) (n : Nat) : Sp := sp4 fun a d k m H Q _ => ∃ (S : SC) (l : Int) (deep : Nat) (kl : Addr) (ks : List Str) (mp : Bool), a = .ref S.a ∧ d = .int (deep : Nat) ∧ k = .ref kl ∧ m = .bl mp ∧ kl ≠ S.a ∧ H kl = some (.lst (ks.map V.str)) ∧ KsOk ks ∧ deep < n ∧ LB K S l H ∧
  ∀ (v : V) (t : Vl) (l' : Int) (H' : Hp), t.gf deep → Bud l l' (vsz t) → Tp H' v t.dat → LB K S l' H' → Keep S H H' → Q v H'
theorem no__law_value {K : Frg} {vs : List V} {H : Hp} {Q : VK} {E : XK} (h : sp__law_value K 0 vs H Q E) : False := by
  obtain ⟨_, _, _, _, rfl, S, l, deep, kl, ks, mp, _, _, _, _, _, _, _, h, _⟩ := h
  exact absurd h (Nat.not_lt_zero _)
def sp__law_towered (K : Frg) : Sp := sp3 fun a b c H Q _ => ∃ S l t mp, a = .ref S.a ∧ c = .bl mp ∧ LB K S l H ∧ Tp H b (Vl.dat t) ∧ t.gf 4 ∧ ∀ (v : V) (t' : Vl) (n : Nat) (H' : Hp), n ≤ 24 → t'.gf n → vsz t' ≤ vsz t + 40 → Tp H' v t'.dat → LB K S l H' → Keep S H H' → Q v H'
def sp__law_far (K : Frg) : Sp := sp2 fun a b H Q _ => ∃ S l t, a = .ref S.a ∧ LB K S l H ∧ Tp H b (Vl.dat t) ∧ t.gf 2 ∧ ∀ (v : V) (t' : Vl) (H' : Hp), t'.gf 4 → vsz t' ≤ vsz t + 10 → Tp H' v t'.dat → LB K S l H' → Keep S H H' → Q v H'
theorem new_s {H : Hp} {p : Addr} (hp : H p = none) (o : HO) : ∃ H', upd H p o = H' ∧ Same H H' ∧ H' p = some o := ⟨_, rfl, same_upd hp o, upd_same⟩
theorem new_b {K : Frg} {S : SC} {l : Int} {H : Hp} {p : Addr} {o : HO} (L : LB K S l H) (hp : H p = none) : ∃ H', upd H p o = H' ∧ LB K S l H' ∧ Same H H' ∧ H' p = some o := ⟨_, rfl, L.new hp o, same_upd hp o, upd_same⟩
theorem gf_up : ∀ (n : Nat) (v : Vl), v.gf n → v.gf (n + 1)
  | n, .lf k r, h => gf_leaf (by cases n <;> exact h) _
  | 0, .ls xs, h => h.elim
  | 0, .mp es, h => h.elim
  | n + 1, .ls xs, h => ⟨h.1, gfL_of fun x hx => gf_up n x (gfL_mem h.2 x hx)⟩
  | n + 1, .mp es, h => ⟨h.1, h.2.1, h.2.2.1, gfM_of fun e he => gf_up n e.2 (gfM_mem h.2.2.2 e he)⟩
def farM : List Int := [7, -123456789012345678901234567891]
theorem farM_in : ∀ v ∈ farM, v % 10 ≠ 0 ∧ v.natAbs < 10 ^ 1950 := fun v hv => by
  rcases List.mem_cons.mp hv with e | hv
  · rw [e]
    exact ⟨by decide, Nat.lt_of_lt_of_le (by decide : 7 < 10 ^ 1) (pow10_le (by decide))⟩
  · rw [List.mem_singleton.mp hv]
    exact ⟨by decide, Nat.lt_of_lt_of_le (by decide : _ < 10 ^ 30) (pow10_le (by decide))⟩
theorem far_gf {t : Vl} {m e e2 : Int} (ht : t.gf 2) (h1 : Nk m e) (h2 : Nk 1 e2) : (Vl.ls [t, .mp [([98], .lf "number" [.int m, .int e])], .lf "number" [.int 1, .int e2]]).gf 4 ∧ vsz (Vl.ls [t, .mp [([98], .lf "number" [.int m, .int e])], .lf "number" [.int 1, .int e2]]) ≤ vsz t + 10 :=
  ⟨⟨by show 3 ≤ 49; decide, gf_up 2 t ht, ⟨by show 1 ≤ 49; decide, List.pairwise_singleton _ _, fun e he => by
    rw [List.mem_singleton.mp he]
    exact ⟨by show 1 ≤ 200; decide, fun c hc => by
      rw [List.mem_singleton.mp hc]
      exact ⟨by decide, by decide, .inl (by decide)⟩⟩, ⟨.number m e h1, trivial⟩⟩, .number 1 e2 h2, trivial⟩, by
    show 1 + (vsz t + (1 + (1 + 1 + 0) + (1 + 0))) ≤ vsz t + 10
    omega⟩
theorem pt_big {x : Int} (h0 : 0 ≤ x) (h1 : x ≤ 1112000) : Point (x + 2048 * if decide (55295 < x) = true then 1 else 0) := by
  by_cases c : 55295 < x
  · rw [if_pos (decide_eq_true c)]
    exact ⟨by omega, by omega, .inr (by omega)⟩
  · rw [if_neg (by rw [decide_eq_false c]; decide)]
    exact ⟨by omega, by omega, .inl (by omega)⟩
def edges13 : List Int := [23, 24, 127, 128, 255, 256, 65535, 65536, 2 ^ 31, 2 ^ 32, 2 ^ 63, 2 ^ 64, 10 ^ 30]
theorem edges13_in : ∀ v ∈ edges13, 0 ≤ v ∧ v ≤ 10 ^ 30 := by decide +kernel
def far10 : List Int := [62, 63, 64, 65, 66, 100, 800, -400, 10 ^ 8, -(10 ^ 8)]
theorem far10_in : ∀ v ∈ far10, -1000000000 ≤ v ∧ v ≤ 1000000000 := by decide +kernel
/-- what is made a number -/
def Nr (m e : Int) : Prop := m.natAbs < 10 ^ 1950 ∧ ((-1000 ≤ e ∧ e ≤ 1000) ∨ (m % 10 ≠ 0 ∧ -1000000000 ≤ e ∧ e ≤ 1000000000))
theorem low_big {m : Int} {k : Nat} (h : m.natAbs < 10 ^ k) (hk : k ≤ 1950) : m.natAbs < 10 ^ 1950 := Nat.lt_of_lt_of_le h (pow10_le hk)
theorem nr_low {m e : Int} (h : m.natAbs < 10 ^ 60) (h1 : -1000 ≤ e) (h2 : e ≤ 1000) : Nr m e := ⟨low_big h (by decide), .inl ⟨h1, h2⟩⟩
theorem nr_neg {m e : Int} (h : Nr m e) : Nr (-m) e := ⟨by rw [Int.natAbs_neg]; exact h.1, h.2.imp id fun q => ⟨by omega, q.2⟩⟩
theorem nk_of {m e m' e' : Int} (hr : Nr m e) (h : nrm m e = (m', e')) : Nk m' e' := by
  obtain ⟨hm, he⟩ := hr
  by_cases c : m = 0
  · rw [c, nrm_zero] at h
    injection h with h1 h2
    subst h1 h2
    exact ⟨.inl ⟨rfl, rfl⟩, Nat.pow_pos (by decide), by decide, by decide⟩
  rcases he with he | ⟨hn, he⟩
  · obtain ⟨a, k, e1, e2, e3⟩ := nrm_of e c
    rw [e1] at h
    injection h with h1 h2
    have ea : m.natAbs = a.natAbs * 10 ^ k := by rw [e3, Int.natAbs_mul, natAbs10]
    have a1 : 1 ≤ a.natAbs := by omega
    have hle : a.natAbs ≤ m.natAbs := by
      rw [ea]
      exact Nat.le_mul_of_pos_right _ (Nat.pow_pos (by decide))
    have hk : k < 1950 := by
      rcases Nat.lt_or_ge k 1950 with q | q
      · exact q
      · exfalso
        have h3 : 10 ^ 1950 ≤ m.natAbs := by
          rw [ea]
          exact Nat.le_trans (pow10_le q) (Nat.le_trans (Nat.le_of_eq (Nat.one_mul _).symm) (Nat.mul_le_mul_right _ a1))
        exact Nat.lt_irrefl _ (Nat.lt_of_le_of_lt h3 hm)
    subst h1 h2
    exact ⟨.inr e2, Nat.lt_of_le_of_lt hle hm, by omega, by omega⟩
  · rw [nrm_stop e hn] at h
    injection h with h1 h2
    subst h1 h2
    exact ⟨.inr hn, hm, by omega, by omega⟩
theorem turn10b {x r : Int} {i : Nat} (h : x.natAbs < 10 ^ (60 + 41 * i)) (h0 : 0 ≤ r) (h1 : r < 1000) : (x * (10 ^ 40 + 7) + r).natAbs < 10 ^ (60 + 41 * (i + 1)) := by
  have e : 60 + 41 * (i + 1) = (60 + 41 * i) + 41 := by omega
  rw [e, Nat.pow_add]
  have e41 : (10 : Nat) ^ 41 = 100000000000000000000000000000000000000000 := by decide
  have e40 : (10 : Int) ^ 40 + 7 = 10000000000000000000000000000000000000007 := by decide
  rw [e41, e40]
  omega
section
variable {P : Program} {w : World} {K : PySem.W.Frag} {mg : Str → Option Value} {base : Heap} {f : Addr} {fd : FuncData}
theorem ok__law_big (F : FunD K "_law_big" "_law_big" (defArgs s__law_big) (defBody s__law_big) (defScope s__law_big) [] [] (glAd "_law_big" K) fd) (m : mg "_law_big" = some (.ref (glAd "_law_big" K))) (nb : Nm w K mg) (c__law_cell : Cal P w K mg base 1 "_law_cell" (sp__law_cell K) []) (c__law_next : Cal P w K mg base 1 "_law_next" (sp__law_next K) []) : Cal P w K mg base 2 "_law_big" (sp__law_big K) [] := by
  refine calD F m sc__law_big (fun _ _ _ _ _ _ us hl => match us, hl with | [_, _], _ => rfl) len2 (fun cdv A outer s H vs Q E hr h => ⟨_, (pss_cons (ps_set (i := 2) sc__law_big.nd rfl (Or.inl rfl) (pe_callB call_abs (by rfl) nb.abs (by decide +kernel) (pa_cons (pe_c c__law_cell hr (by decide) rfl (pa_cons (pe_ix ix_list (pv 0) pe_int (fun _ _ => rfl)) (pa_cons (pe_op op_add pe_int (pe_c c__law_next hr (by decide) rfl (pa_cons (pv 0) (pa_cons pe_int pa_nil)))) pa_nil))) pa_nil)))
    (pss_one (ps_ret (pe_op op_mod (pe_callTy call_int1 (by rfl) nb.int (by decide +kernel) (pa_cons (pe_op op_add (pe_op op_mul (pv 2) pe_int) (pe_c c__law_next hr (by decide) rfl (pa_cons (pv 0) (pa_cons pe_int pa_nil)))) pa_nil)) (pv 1))))), ?_⟩)
  obtain ⟨_, _, rfl, S, l, mm, rfl, rfl, h0, L, h⟩ := h
  obtain ⟨k, f5, e⟩ := L.at_
  walk_at "rd"
  refine r_ixL (SqL.of e) rfl ?_
  walk_at "rd"
  refine b_next L (by decide) fun r1 H1 a1 b1 L1 k1 => ?_
  walk_at "rd"
  refine ⟨_, _, rfl, S.sl, S.ns, _, rfl, rfl, L1.ls.scr, by omega, fun z => ?_⟩
  walk_at "rd"
  refine b_next L1 (by decide) fun r2 H2 a2 b2 L2 k2 => ?_
  walk_at "rd"
  refine r_I h0 ?_
  exact h _ _ (Int.emod_nonneg _ (by omega)) (Int.emod_lt_of_pos _ h0) L2 (k1.trans k2)
theorem ok__law_normal (F : FunD K "_law_normal" "_law_normal" (defArgs s__law_normal) (defBody s__law_normal) (defScope s__law_normal) [] [] (glAd "_law_normal" K) fd) (m : mg "_law_normal" = some (.ref (glAd "_law_normal" K))) (nb : Nm w K mg) : Cal P w K mg base 1 "_law_normal" sp__law_normal [] := by
  refine calD F m sc__law_normal (fun _ _ _ _ _ _ us hl => match us, hl with | [_, _], _ => rfl) len2 (fun cdv A outer s H vs Q E hr h => ⟨_, (pss_cons (ps_if (pt_cmpR op_eq (pv 0) pe_int (nomark _))
    (pss_one (ps_ret (pe_tup (pa_cons pe_int (pa_cons pe_int pa_nil)))))
    pss_nil)
    (pss_cons (ps_for PassesOwn.never rfl (pi_range1 rfl nb.range (pa_cons pe_int pa_nil)) (pg_name (i := 2) sc__law_normal.nd rfl (Or.inl rfl))
    (pss_cons (ps_if (pt_cmpR op_ne (pe_op op_mod (pv 0) pe_int) pe_int (nomark _))
    (pss_one (ps_ret (pe_tup (pa_cons (pv 0) (pa_cons (pv 1) pa_nil)))))
    pss_nil)
    (pss_cons (ps_set (i := 0) sc__law_normal.nd rfl (Or.inl rfl) (pe_op op_fdiv (pv 0) pe_int))
    (pss_one (ps_set (i := 1) sc__law_normal.nd rfl (Or.inl rfl) (pe_op op_add (pv 1) pe_int))))))
    (pss_one (ps_ret (pe_tup (pa_cons (pv 0) (pa_cons (pv 1) pa_nil))))))), ?_⟩)
  obtain ⟨_, _, rfl, m, e, rfl, rfl, hm, h⟩ := h
  walk_at "rd"
  refine r_ite (fun c => ?_) (fun c => ?_)
  · walk_at "rd"
    exact ⟨by show 2 ≤ sizeLine; decide, fun p hp => h p _ _ _ (by rw [c, nrm_zero]) hp upd_same (same_upd hp _)⟩
  walk_at "rd"
  refine r_turns (by decide) (by decide) (fun i σ H' => H = H' ∧ ∃ (m' e' : Int) (y : Option V), nrm m' e' = nrm m e ∧ m' ≠ 0 ∧ m'.natAbs * 10 ^ i ≤ m.natAbs ∧ σ = [some (.int m'), some (.int e'), y]) ⟨rfl, m, e, none, rfl, c, by simp, rfl⟩ ?_ ?_
  · rintro i σ _ hi ⟨rfl, m', e', y, hm1, hm2, hm3, rfl⟩
    walk_at "rd"
    refine r_iten (fun c => ?_) (fun c => ?_)
    · walk_at "rd"
      exact ⟨by show 2 ≤ sizeLine; decide, fun p hp => h p _ _ _ (by rw [← hm1, nrm_stop e' c]) hp upd_same (same_upd hp _)⟩
    · walk_at "rd"
      refine ⟨rfl, _, _, _, by rw [← nrm_step e' hm2 c]; exact hm1, by omega, ?_, rfl⟩
      have e1 : m'.natAbs = (m' / 10).natAbs * 10 := by omega
      rw [Nat.pow_succ, Nat.mul_comm (10 ^ i), ← Nat.mul_assoc, ← e1]
      exact hm3
  · rintro σ _ ⟨rfl, m', e', y, hm1, hm2, hm3, rfl⟩
    exfalso
    have h1 : 1 ≤ m'.natAbs := by omega
    have h2 : 10 ^ 3001 ≤ m.natAbs := Nat.le_trans (Nat.le_trans (Nat.le_of_eq (Nat.one_mul _).symm) (Nat.mul_le_mul_right (10 ^ 3001) h1)) hm3
    exact Nat.lt_irrefl _ (Nat.lt_of_lt_of_le hm (Nat.le_trans (pow10_le (by decide)) h2))
theorem ok__law_points (F : FunD K "_law_points" "_law_points" (defArgs s__law_points) (defBody s__law_points) (defScope s__law_points) [] [] (glAd "_law_points" K) fd) (m : mg "_law_points" = some (.ref (glAd "_law_points" K))) (nb : Nm w K mg) (c__law_next : Cal P w K mg base 1 "_law_next" (sp__law_next K) []) : Cal P w K mg base 2 "_law_points" (sp__law_points K) [] := by
  refine calD F m sc__law_points (fun _ _ _ _ _ _ us hl => match us, hl with | [_], _ => rfl) len1 (fun cdv A outer s H vs Q E hr h => ⟨_, (pss_cons (ps_set (i := 1) sc__law_points.nd rfl (Or.inl rfl) (pe_lst (pa_cons pe_int (pa_cons pe_int (pa_cons pe_int (pa_cons pe_int (pa_cons pe_int (pa_cons pe_int (pa_cons pe_int (pa_cons pe_int (pa_cons pe_int (pa_cons pe_int (pa_cons pe_int (pa_cons pe_int pa_nil))))))))))))))
    (pss_cons (ps_set (i := 2) sc__law_points.nd rfl (Or.inl rfl) (pe_c c__law_next hr (by decide) rfl (pa_cons (pv 0) (pa_cons pe_int pa_nil))))
    (pss_cut (ps_if (PW.pt (pw_and (pt_cmpR op_gt (pe_ix ix_list (pv 0) pe_int (fun _ _ => rfl)) pe_int (nomark _)) (pw_and1 (pt_cmpR op_eq (pe_c c__law_next hr (by decide) rfl (pa_cons (pv 0) (pa_cons pe_int pa_nil))) pe_int (nomark _)))))
    (pss_cons (ps_asg (pe_op op_sub (pe_ix ix_list (pv 0) pe_int (fun _ _ => rfl)) pe_int) (pg_sub (pv 0) pe_int set_list))
    (pss_one (ps_set (i := 2) sc__law_points.nd rfl (Or.inl rfl) (pe_op op_add pe_int (pe_c c__law_next hr (by decide) rfl (pa_cons (pv 0) (pa_cons pe_int pa_nil)))))))
    pss_nil)
    (pss_cons (ps_set (i := 3) sc__law_points.nd rfl (Or.inl rfl) (pe_lst pa_nil))
    (pss_cons (ps_for PassesOwn.never rfl (pi_range1 rfl nb.range (pa_cons (pv 2) pa_nil)) (pg_name (i := 4) sc__law_points.nd rfl (Or.inl rfl))
    (pss_cons (ps_set (i := 5) sc__law_points.nd rfl (Or.inl rfl) (pe_c c__law_next hr (by decide) rfl (pa_cons (pv 0) (pa_cons pe_int pa_nil))))
    (pss_cons (ps_set (i := 6) sc__law_points.nd rfl (Or.inl rfl) (pe_op op_add pe_int (pe_c c__law_next hr (by decide) rfl (pa_cons (pv 0) (pa_cons pe_int pa_nil)))))
    (pss_cut (ps_if (pt_cmpR op_eq (pv 5) pe_int (nomark _))
    (pss_one (ps_set (i := 6) sc__law_points.nd rfl (Or.inl rfl) (pe_ix ix_list (pv 1) (pe_c c__law_next hr (by decide) rfl (pa_cons (pv 0) (pa_cons pe_int pa_nil))) (fun _ _ => rfl))))
    pss_nil)
    (pss_cut (ps_if (pt_cmpR op_eq (pv 5) pe_int (nomark _))
    (pss_one (ps_set (i := 6) sc__law_points.nd rfl (Or.inl rfl) (pe_c c__law_next hr (by decide) rfl (pa_cons (pv 0) (pa_cons pe_int pa_nil)))))
    pss_nil)
    (pss_cut (ps_if (pt_cmpR op_eq (pv 5) pe_int (nomark _))
    (pss_cons (ps_set (i := 6) sc__law_points.nd rfl (Or.inl rfl) (pe_op op_add (pe_op op_mul pe_int (pe_c c__law_next hr (by decide) rfl (pa_cons (pv 0) (pa_cons pe_int pa_nil)))) (pe_c c__law_next hr (by decide) rfl (pa_cons (pv 0) (pa_cons pe_int pa_nil)))))
    (pss_one (ps_set (i := 6) sc__law_points.nd rfl (Or.inl rfl) (pe_op op_add (pv 6) (pe_op op_mul pe_int (pe_callTy call_int1 (by rfl) nb.int (by decide +kernel) (pa_cons (pe_cmpR op_gt (pv 6) pe_int (nomark _)) pa_nil)))))))
    pss_nil)
    (pss_one (ps_expr (pe_bm PySem.F.plainAttrs_list PySem.F.slot_list_append PySem.F.type_list_append mt_append (pv 3) (pa_cons (pv 6) pa_nil))))))))))
    (pss_one (ps_ret (pe_callTy call_tuple_of (by rfl) nb.tuple (by decide +kernel) (pa_cons (pv 3) pa_nil))))))))), ?_⟩)
  obtain ⟨_, rfl, S, l, rfl, L, h⟩ := h
  walk_at "rd"
  refine ⟨by show 12 ≤ sizeLine; decide, fun pm nm => ?_⟩
  have hM1 : upd H pm (.lst (menu12.map V.int)) pm = some (.lst (menu12.map V.int)) := upd_same
  have L1 := L.new nm (.lst (menu12.map V.int))
  have k1 : Keep S H (upd H pm (.lst (menu12.map V.int))) := Keep.of (same_upd nm _)
  have pS := L.ne_free nm
  walk_at "rd"
  refine b_next L1 (by decide) fun m0 H2 a2 b2 L2 k2 => ?_
  have hM2 := k2 _ _ pS hM1
  have k2 := k1.trans k2
  clear L1 k1 hM1
  walk_at "rd"
  refine r_cut (fun σ H' => LB K S l H' ∧ Keep S H H' ∧ H' pm = some (.lst (menu12.map V.int)) ∧ ∃ (m : Int), 0 ≤ m ∧ m ≤ 139 ∧ σ = [some (.ref S.a), some (.ref pm), some (.int m), none, none, none, none]) ?_ ?_
  · walk_at "rd"
    obtain ⟨kk, f5, e⟩ := L2.at_
    refine r_ixL (SqL.of e) rfl ?_
    walk_at "rd"
    refine r_ite (fun c => ?_) (fun c => ?_)
    · walk_at "rd"
      refine b_next L2 (by decide) fun r3 H3 a3 b3 L3 k3 => ?_
      have hM3 := k3 _ _ pS hM2
      have k3 := k2.trans k3
      walk_at "rd"
      refine r_ite (fun c => ?_) (fun c => ?_)
      · walk_at "rd"
        obtain ⟨kk, f5, e⟩ := L3.at_
        refine r_ixL (SqL.of e) rfl ?_
        walk_at "rd"
        refine r_setL e rfl ?_
        walk_at "rd"
        have L4 := L3.put kk l (f5 - 1)
        have k4 := k3.trans (Keep.put (H := H3) (.lst [.ref S.nl, .int kk, .int l, .ref S.sl, .int (f5 - 1)]))
        have hM4 := (Keep.put (S := S) (H := H3) (.lst [.ref S.nl, .int kk, .int l, .ref S.sl, .int (f5 - 1)])) _ _ pS hM3
        refine b_next L4 (by decide) fun r5 H5 a5 b5 L5 k5 => ?_
        walk_at "rd"
        exact ⟨L5, k4.trans k5, k5 _ _ pS hM4, _, by omega, by omega, rfl⟩
      · walk_at "rd"
        exact ⟨L3, k3, hM3, _, a2, by omega, rfl⟩
    · walk_at "rd"
      exact ⟨L2, k2, hM2, _, a2, by omega, rfl⟩
  rintro σ H3 ⟨L3, k3, hM3, m, hm0, hm1, rfl⟩
  clear L2 k2 hM2
  walk_at "rd"
  refine ⟨Nat.zero_le _, fun D nD => ?_⟩
  have L4 := L3.new nD (.lst [])
  have DS := L3.ne_free nD
  have nD0 : H D = none := k3.free L3.ls nD
  have hM4 := same_upd nD (.lst []) _ _ hM3
  have Dp := ne_of_none hM3 nD
  have k4 : Keep S H (upd H3 D (.lst [])) := k3.trans (Keep.of (same_upd nD _))
  walk_at "rd"
  refine r_turns (by omega) (by omega) (fun i σ H' => LB K S l H' ∧ Keep S H H' ∧ H' pm = some (.lst (menu12.map V.int)) ∧ ∃ (ps : List Int) (y4 y5 y6 : Option V), ps.length = i ∧ (∀ c ∈ ps, Point c) ∧ H' D = some (.lst (ps.map V.int)) ∧ σ = [some (.ref S.a), some (.ref pm), some (.int m), some (.ref D), y4, y5, y6]) ⟨L4, k4, hM4, [], _, _, _, rfl, fun _ z => absurd z (by simp), upd_same, rfl⟩ ?_ ?_
  · rintro i σ H5 hi ⟨L5, k5, hM5, ps, y4, y5, y6, hl, hps, hD5, rfl⟩
    walk_at "rd"
    refine b_next L5 (by decide) fun r6 H6 a6 b6 L6 k6 => ?_
    walk_at "rd"
    refine b_next L6 (by decide) fun r7 H7 a7 b7 L7 k7 => ?_
    have hM7 := k7 _ _ pS (k6 _ _ pS hM5)
    have hD7 := k7 _ _ DS (k6 _ _ DS hD5)
    have k7 := (k5.trans k6).trans k7
    clear L5 L6 k5 k6 hM5 hD5
    walk_at "rd"
    have mid : ∀ (H' : Hp) (pt : Int), Point pt → LB K S l H' → Keep S H H' → H' pm = some (.lst (menu12.map V.int)) → H' D = some (.lst (ps.map V.int)) → (fun (σ : St) (H' : Hp) => LB K S l H' ∧ Keep S H H' ∧ H' pm = some (.lst (menu12.map V.int)) ∧ H' D = some (.lst (ps.map V.int)) ∧ ∃ pt : Int, Point pt ∧ σ = [some (.ref S.a), some (.ref pm), some (.int m), some (.ref D), some (.int (i : Nat)), some (.int r6), some (.int pt)]) [some (.ref S.a), some (.ref pm), some (.int m), some (.ref D), some (.int (i : Nat)), some (.int r6), some (.int pt)] H' := fun H' pt hpt h1 h2 h3 h4 => ⟨h1, h2, h3, h4, pt, hpt, rfl⟩
    refine r_cut (fun σ H' => LB K S l H' ∧ Keep S H H' ∧ H' pm = some (.lst (menu12.map V.int)) ∧ H' D = some (.lst (ps.map V.int)) ∧ ∃ pt : Int, Point pt ∧ σ = [some (.ref S.a), some (.ref pm), some (.int m), some (.ref D), some (.int (i : Nat)), some (.int r6), some (.int pt)]) ?_ ?_
    · walk_at "rd"
      refine r_ite (fun c => ?_) (fun c => ?_)
      · walk_at "rd"
        refine b_next L7 (by decide) fun r8 H8 a8 b8 L8 k8 => ?_
        obtain ⟨v, hv, ev⟩ := atI_ints (ns := menu12) (k := r8) a8 b8
        refine r_ixL (SqL.of (k8 _ _ pS hM7)) ev ?_
        exact mid H8 v (menu12_in v hv) L8 (k7.trans k8) (k8 _ _ pS hM7) (k8 _ _ DS hD7)
      · walk_at "rd"
        exact mid H7 _ (pt_low (by omega) (by omega)) L7 k7 hM7 hD7
    rintro σ H8 ⟨L8, k8, hM8, hD8, pt, hpt, rfl⟩
    clear L7 k7 hM7 hD7
    refine r_cut (fun σ H' => LB K S l H' ∧ Keep S H H' ∧ H' pm = some (.lst (menu12.map V.int)) ∧ H' D = some (.lst (ps.map V.int)) ∧ ∃ pt : Int, Point pt ∧ σ = [some (.ref S.a), some (.ref pm), some (.int m), some (.ref D), some (.int (i : Nat)), some (.int r6), some (.int pt)]) ?_ ?_
    · walk_at "rd"
      refine r_ite (fun c => ?_) (fun c => ?_)
      · walk_at "rd"
        refine b_next L8 (by decide) fun r9 H9 a9 b9 L9 k9 => ?_
        exact mid H9 _ (pt_low a9 (by omega)) L9 (k8.trans k9) (k9 _ _ pS hM8) (k9 _ _ DS hD8)
      · walk_at "rd"
        exact mid H8 _ hpt L8 k8 hM8 hD8
    rintro σ H9 ⟨L9, k9, hM9, hD9, pt, hpt, rfl⟩
    clear L8 k8 hM8 hD8
    refine r_cut (fun σ H' => LB K S l H' ∧ Keep S H H' ∧ H' pm = some (.lst (menu12.map V.int)) ∧ H' D = some (.lst (ps.map V.int)) ∧ ∃ pt : Int, Point pt ∧ σ = [some (.ref S.a), some (.ref pm), some (.int m), some (.ref D), some (.int (i : Nat)), some (.int r6), some (.int pt)]) ?_ ?_
    · walk_at "rd"
      refine r_ite (fun c => ?_) (fun c => ?_)
      · walk_at "rd"
        refine b_next L9 (by decide) fun r10 H10 a10 b10 L10 k10 => ?_
        walk_at "rd"
        refine b_next L10 (by decide) fun r11 H11 a11 b11 L11 k11 => ?_
        walk_at "rd"
        refine .inr ⟨_, rfl, ?_⟩
        walk_at "rd"
        exact mid H11 _ (pt_big (by omega) (by omega)) L11 ((k9.trans k10).trans k11) (k11 _ _ pS (k10 _ _ pS hM9)) (k11 _ _ DS (k10 _ _ DS hD9))
      · walk_at "rd"
        exact mid H9 _ hpt L9 k9 hM9 hD9
    rintro σ H10 ⟨L10, k10, hM10, hD10, pt, hpt, rfl⟩
    walk_at "rd"
    refine ⟨tyL hD10, ?_⟩
    walk_at "rd"
    refine r_app hD10 (small1000 (by rw [List.length_map]; omega)) ?_
    exact ⟨L3.away nD L10 _, keep_away k10 nD0, (upd_ne Dp).trans hM10, ps ++ [pt], _, _, _, by rw [List.length_append, hl]; rfl, fun c hc => (List.mem_append.mp hc).elim (hps c) fun z => (List.mem_singleton.mp z) ▸ hpt, by rw [upd_same, map_snoc], rfl⟩
  rintro σ H5 ⟨L5, k5, hM5, ps, y4, y5, y6, hl, hps, hD5, rfl⟩
  walk_at "rd"
  refine ⟨D, _, rfl, .inl ⟨SqL.of hD5, fun t nt => ?_⟩⟩
  exact h t ps _ upd_same ⟨by omega, hps⟩ (L5.new nt _) (k5.trans (Keep.of (same_upd nt _)))
theorem ok__law_octets (F : FunD K "_law_octets" "_law_octets" (defArgs s__law_octets) (defBody s__law_octets) (defScope s__law_octets) [] [] (glAd "_law_octets" K) fd) (m : mg "_law_octets" = some (.ref (glAd "_law_octets" K))) (nb : Nm w K mg) (c__law_next : Cal P w K mg base 1 "_law_next" (sp__law_next K) []) : Cal P w K mg base 2 "_law_octets" (sp__law_octets K) [] := by
  refine calD F m sc__law_octets (fun _ _ _ _ _ _ us hl => match us, hl with | [_], _ => rfl) len1 (fun cdv A outer s H vs Q E hr h => ⟨_, (pss_cons (ps_set (i := 1) sc__law_octets.nd rfl (Or.inl rfl) (pe_c c__law_next hr (by decide) rfl (pa_cons (pv 0) (pa_cons pe_int pa_nil))))
    (pss_cut (ps_if (PW.pt (pw_and (pt_cmpR op_gt (pe_ix ix_list (pv 0) pe_int (fun _ _ => rfl)) pe_int (nomark _)) (pw_and1 (pt_cmpR op_eq (pe_c c__law_next hr (by decide) rfl (pa_cons (pv 0) (pa_cons pe_int pa_nil))) pe_int (nomark _)))))
    (pss_cons (ps_asg (pe_op op_sub (pe_ix ix_list (pv 0) pe_int (fun _ _ => rfl)) pe_int) (pg_sub (pv 0) pe_int set_list))
    (pss_one (ps_set (i := 1) sc__law_octets.nd rfl (Or.inl rfl) (pe_op op_add pe_int (pe_c c__law_next hr (by decide) rfl (pa_cons (pv 0) (pa_cons pe_int pa_nil)))))))
    pss_nil)
    (pss_cons (ps_asg (pe_ix ix_list (pe_lst (pa_cons (pe_tup (pa_cons pe_int (pa_cons pe_int pa_nil))) (pa_cons (pe_tup (pa_cons pe_int (pa_cons pe_int pa_nil))) (pa_cons (pe_tup (pa_cons pe_int (pa_cons pe_int pa_nil))) pa_nil)))) (pe_c c__law_next hr (by decide) rfl (pa_cons (pv 0) (pa_cons pe_int pa_nil))) (fun _ _ => rfl)) (pg_tup rfl (pgs_cons (pg_name (i := 2) sc__law_octets.nd rfl (Or.inr rfl)) (pgs_cons (pg_name (i := 3) sc__law_octets.nd rfl (Or.inr rfl)) pgs_nil))))
    (pss_one (ps_ret (pe_callTy call_tuple_of (by rfl) nb.tuple (by decide +kernel) (pa_cons (pe_lc (own := [("k", 4)]) (g := gName 4) (tt := tYes) rfl sc__law_octets.nd (pi_range1 rfl nb.range (pa_cons (pv 1) pa_nil)) (blkOk_by (N := ["state", "many", "low", "span", "k"]) (sc := defScope s__law_octets) (by decide +kernel)) (fun _ _ _ _ _ => pg_name (i := 4) sc__law_octets.nd rfl (Or.inl rfl)) (fun _ _ _ _ _ => pts_nil) (fun _ _ _ _ _ => (pe_op op_add (pv 2) (pe_c c__law_next hr (by decide) rfl (pa_cons (pv 0) (pa_cons (pv 3) pa_nil)))))) pa_nil))))))), ?_⟩)
  obtain ⟨_, rfl, S, l, rfl, L, h⟩ := h
  walk_at "rd"
  refine b_next L (by decide) fun m0 H2 a2 b2 L2 k2 => ?_
  walk_at "rd"
  refine r_cut (fun σ H' => LB K S l H' ∧ Keep S H H' ∧ ∃ (m : Int), 0 ≤ m ∧ m ≤ 279 ∧ σ = [some (.ref S.a), some (.int m), none, none, none]) ?_ ?_
  · walk_at "rd"
    obtain ⟨kk, f5, e⟩ := L2.at_
    refine r_ixL (SqL.of e) rfl ?_
    walk_at "rd"
    refine r_ite (fun c => ?_) (fun c => ?_)
    · walk_at "rd"
      refine b_next L2 (by decide) fun r3 H3 a3 b3 L3 k3 => ?_
      have k3 := k2.trans k3
      walk_at "rd"
      refine r_ite (fun c => ?_) (fun c => ?_)
      · walk_at "rd"
        obtain ⟨kk, f5, e⟩ := L3.at_
        refine r_ixL (SqL.of e) rfl ?_
        walk_at "rd"
        refine r_setL e rfl ?_
        walk_at "rd"
        have L4 := L3.put kk l (f5 - 1)
        have k4 := k3.trans (Keep.put (H := H3) (.lst [.ref S.nl, .int kk, .int l, .ref S.sl, .int (f5 - 1)]))
        refine b_next L4 (by decide) fun r5 H5 a5 b5 L5 k5 => ?_
        walk_at "rd"
        exact ⟨L5, k4.trans k5, _, by omega, by omega, rfl⟩
      · walk_at "rd"
        exact ⟨L3, k3, _, a2, by omega, rfl⟩
    · walk_at "rd"
      exact ⟨L2, k2, _, a2, by omega, rfl⟩
  rintro σ H3 ⟨L3, k3, m, hm0, hm1, rfl⟩
  clear L2 k2
  walk_at "rd"
  refine ⟨by show 2 ≤ sizeLine; decide, fun t1 nt1 => ?_⟩
  have s1 := same_upd nt1 (.tup [.int 0, .int 256])
  walk_at "rd"
  refine ⟨by show 2 ≤ sizeLine; decide, fun t2 nt2 => ?_⟩
  have s2 := same_upd nt2 (.tup [.int 32, .int 95])
  walk_at "rd"
  refine ⟨by show 2 ≤ sizeLine; decide, fun t3 nt3 => ?_⟩
  have s3 := same_upd nt3 (.tup [.int 97, .int 26])
  have g1 := s3 _ _ (s2 _ _ (upd_same : upd H3 t1 (.tup [.int 0, .int 256]) t1 = some (.tup [.int 0, .int 256])))
  have g2 := s3 _ _ (upd_same : upd (upd H3 t1 (.tup [.int 0, .int 256])) t2 (.tup [.int 32, .int 95]) t2 = some (.tup [.int 32, .int 95]))
  have g3 : upd (upd (upd H3 t1 (.tup [.int 0, .int 256])) t2 (.tup [.int 32, .int 95])) t3 (.tup [.int 97, .int 26]) t3 = some (.tup [.int 97, .int 26]) := upd_same
  have s13 := (s1.trans s2).trans s3
  have L4 := L3.same s13
  have k4 := k3.trans (Keep.of s13)
  generalize upd (upd (upd H3 t1 (.tup [.int 0, .int 256])) t2 (.tup [.int 32, .int 95])) t3 (.tup [.int 97, .int 26]) = H4 at g1 g2 g3 L4 k4 ⊢
  clear s1 s2 s3 s13 nt1 nt2 nt3 L3 k3
  walk_at "rd"
  refine b_pick (xs := [.ref t1, .ref t2, .ref t3]) L4 rfl (by show 3 ≤ sizeLine; decide) (by decide) rfl fun v H5 hv L5 k5 => ?_
  have tk := keep_tk L4.ls k5
  obtain ⟨t, lo, sp, rfl, ht, hsp, lo0, lo1⟩ : ∃ t lo sp, v = V.ref t ∧ H5 t = some (.tup [.int lo, .int sp]) ∧ 0 < sp ∧ 0 ≤ lo ∧ lo + sp ≤ 256 := by
    rcases List.mem_cons.mp hv with e | e
    · exact ⟨t1, 0, 256, e, tk _ _ g1, by decide, by decide, by decide⟩
    rcases List.mem_cons.mp e with e | e
    · exact ⟨t2, 32, 95, e, tk _ _ g2, by decide, by decide, by decide⟩
    · exact ⟨t3, 97, 26, by simpa using e, tk _ _ g3, by decide, by decide, by decide⟩
  have k5 := k4.trans k5
  walk_at "rd"
  refine r_gtup (SqT.of ht) rfl ?_
  walk_at "rd"
  refine ⟨by omega, by omega, fun D nD => ?_⟩
  have DS := L5.ne_free nD
  have nD0 : H D = none := k5.free L5.ls nD
  refine lc_range (fun i H' => LB K S l H' ∧ Keep S H H' ∧ ∃ cs : List Int, cs.length = i ∧ (∀ c ∈ cs, 0 ≤ c ∧ c ≤ 255) ∧ H' D = some (.lst (cs.map V.int))) ⟨L5.new nD _, k5.trans (Keep.of (same_upd nD _)), [], rfl, fun _ z => absurd z (by simp), upd_same⟩ ?_ ?_
  · rintro i H6 hi ⟨L6, k6, cs, e1, ec, e2⟩
    walk_at "rd"
    refine ⟨rfl, ?_⟩
    walk_at "rd"
    refine b_next L6 hsp fun c H7 a7 b7 L7 k7 => ?_
    walk_at "rd"
    exact ⟨_, k7 _ _ DS e2, small1000 (by rw [List.length_map]; omega), L5.away nD L7 _, keep_away (k6.trans k7) nD0, cs ++ [lo + c], by rw [List.length_append, e1]; rfl, fun x hx => (List.mem_append.mp hx).elim (ec x) fun z => by
      rw [List.mem_singleton.mp z]
      omega, by rw [upd_same, map_snoc]⟩
  rintro H6 ⟨L6, k6, cs, e1, ec, e2⟩
  walk_at "rd"
  refine ⟨D, _, rfl, .inl ⟨SqL.of e2, fun t nt => ?_⟩⟩
  exact h t cs _ upd_same ⟨by omega, ec⟩ (L6.new nt _) (k6.trans (Keep.of (same_upd nt _)))
theorem ok__law_number (F : FunD K "_law_number" "_law_number" (defArgs s__law_number) (defBody s__law_number) (defScope s__law_number) [] [] (glAd "_law_number" K) fd) (m : mg "_law_number" = some (.ref (glAd "_law_number" K))) (nb : Nm w K mg) (c__law_next : Cal P w K mg base 1 "_law_next" (sp__law_next K) []) (c__law_big : Cal P w K mg base 2 "_law_big" (sp__law_big K) []) (c__law_normal : Cal P w K mg base 1 "_law_normal" sp__law_normal []) : Cal P w K mg base 3 "_law_number" (sp__law_number K) [] := by
  refine calD F m sc__law_number (fun _ _ _ _ _ _ us hl => match us, hl with | [_], _ => rfl) len1 (fun cdv A outer s H vs Q E hr h => ⟨_, (pss_cons (ps_set (i := 1) sc__law_number.nd rfl (Or.inl rfl) (pe_c c__law_next hr (by decide) rfl (pa_cons (pv 0) (pa_cons pe_int pa_nil))))
    (pss_cons (ps_set (i := 2) sc__law_number.nd rfl (Or.inl rfl) (pe_c c__law_next hr (by decide) rfl (pa_cons (pv 0) (pa_cons pe_int pa_nil))))
    (pss_cons (ps_set (i := 3) sc__law_number.nd rfl (Or.inl rfl) pe_int)
    (pss_cut (ps_if (pt_cmpR op_in_seq (pv 1) (pe_lst (pa_cons pe_int (pa_cons pe_int pa_nil))) rfl)
    (pss_cons (ps_set (i := 4) sc__law_number.nd rfl (Or.inl rfl) (pe_lst (pa_cons pe_int (pa_cons pe_int (pa_cons pe_int (pa_cons pe_int (pa_cons pe_int (pa_cons pe_int (pa_cons pe_int (pa_cons pe_int (pa_cons (pe_op op_pow pe_int pe_int) (pa_cons (pe_op op_pow pe_int pe_int) (pa_cons (pe_op op_pow pe_int pe_int) (pa_cons (pe_op op_pow pe_int pe_int) (pa_cons (pe_op op_pow pe_int pe_int) pa_nil)))))))))))))))
    (pss_one (ps_set (i := 2) sc__law_number.nd rfl (Or.inl rfl) (pe_op op_sub (pe_op op_add (pe_ix ix_list (pv 4) (pe_c c__law_next hr (by decide) rfl (pa_cons (pv 0) (pa_cons pe_int pa_nil))) (fun _ _ => rfl)) (pe_c c__law_next hr (by decide) rfl (pa_cons (pv 0) (pa_cons pe_int pa_nil)))) pe_int))))
    (pss_one (ps_if (pt_cmpR op_in_seq (pv 1) (pe_lst (pa_cons pe_int (pa_cons pe_int (pa_cons pe_int pa_nil)))) rfl)
    (pss_cons (ps_set (i := 2) sc__law_number.nd rfl (Or.inl rfl) (pe_c c__law_next hr (by decide) rfl (pa_cons (pv 0) (pa_cons pe_int pa_nil))))
    (pss_one (ps_set (i := 3) sc__law_number.nd rfl (Or.inl rfl) (pe_op op_sub (pe_c c__law_next hr (by decide) rfl (pa_cons (pv 0) (pa_cons pe_int pa_nil))) pe_int))))
    (pss_one (ps_if (pt_cmpR op_eq (pv 1) pe_int (nomark _))
    (pss_cons (ps_set (i := 2) sc__law_number.nd rfl (Or.inl rfl) (pe_op op_add pe_int (pe_c c__law_next hr (by decide) rfl (pa_cons (pv 0) (pa_cons pe_int pa_nil)))))
    (pss_one (ps_set (i := 3) sc__law_number.nd rfl (Or.inl rfl) (pe_ix ix_list (pe_lst (pa_cons pe_int (pa_cons pe_int (pa_cons pe_int (pa_cons pe_int (pa_cons pe_int (pa_cons pe_int (pa_cons pe_int (pa_cons (pe_un un_neg pe_int) (pa_cons (pe_op op_pow pe_int pe_int) (pa_cons (pe_un un_neg (pe_op op_pow pe_int pe_int)) pa_nil))))))))))) (pe_c c__law_next hr (by decide) rfl (pa_cons (pv 0) (pa_cons pe_int pa_nil))) (fun _ _ => rfl)))))
    (pss_one (ps_if (pt_cmpR op_gt (pv 1) pe_int (nomark _))
    (pss_cons (ps_set (i := 5) sc__law_number.nd rfl (Or.inl rfl) pe_int)
    (pss_cons (ps_for PassesOwn.never rfl (pi_range1 rfl nb.range (pa_cons (pe_c c__law_next hr (by decide) rfl (pa_cons (pv 0) (pa_cons pe_int pa_nil))) pa_nil)) (pg_name (i := 6) sc__law_number.nd rfl (Or.inl rfl))
    (pss_one (ps_set (i := 5) sc__law_number.nd rfl (Or.inl rfl) (pe_op op_mul (pv 5) pe_int))))
    (pss_cons (ps_set (i := 2) sc__law_number.nd rfl (Or.inl rfl) (pe_c c__law_big hr (by decide) rfl (pa_cons (pv 0) (pa_cons (pv 5) pa_nil))))
    (pss_cons (ps_set (i := 3) sc__law_number.nd rfl (Or.inl rfl) (pe_op op_sub (pe_c c__law_next hr (by decide) rfl (pa_cons (pv 0) (pa_cons pe_int pa_nil))) pe_int))
    (pss_one (ps_if (PW.pt (pw_and (pt_cmpR op_eq (pv 1) pe_int (nomark _)) (pw_and1 (pt_cmpR op_gt (pe_ix ix_list (pv 0) pe_int (fun _ _ => rfl)) pe_int (nomark _)))))
    (pss_cons (ps_asg (pe_op op_sub (pe_ix ix_list (pv 0) pe_int (fun _ _ => rfl)) pe_int) (pg_sub (pv 0) pe_int set_list))
    (pss_one (ps_for PassesOwn.never rfl (pi_range1 rfl nb.range (pa_cons (pe_c c__law_next hr (by decide) rfl (pa_cons (pv 0) (pa_cons (pe_ix ix_list (pe_lst (pa_cons pe_int (pa_cons pe_int pa_nil))) (pe_callTy call_int1 (by rfl) nb.int (by decide +kernel) (pa_cons (pe_cmpR op_eq (pe_c c__law_next hr (by decide) rfl (pa_cons (pv 0) (pa_cons pe_int pa_nil))) pe_int (nomark _)) pa_nil)) (fun _ _ => rfl)) pa_nil))) pa_nil)) (pg_name (i := 6) sc__law_number.nd rfl (Or.inl rfl))
    (pss_one (ps_set (i := 2) sc__law_number.nd rfl (Or.inl rfl) (pe_op op_add (pe_op op_mulX (pv 2) (pe_op op_add (pe_op op_pow pe_int pe_int) pe_int)) (pe_c c__law_next hr (by decide) rfl (pa_cons (pv 0) (pa_cons pe_int pa_nil)))))))))
    pss_nil))))))
    pss_nil)))))))
    (pss_cons (ps_asg (pe_c c__law_normal hr (by decide) rfl (pa_cons (pe_ix ix_list (pe_lst (pa_cons (pv 2) (pa_cons (pe_un un_neg (pv 2)) pa_nil))) (pe_c c__law_next hr (by decide) rfl (pa_cons (pv 0) (pa_cons pe_int pa_nil))) (fun _ _ => rfl)) (pa_cons (pv 3) pa_nil))) (pg_tup rfl (pgs_cons (pg_name (i := 2) sc__law_number.nd rfl (Or.inl rfl)) (pgs_cons (pg_name (i := 3) sc__law_number.nd rfl (Or.inl rfl)) pgs_nil))))
    (pss_one (ps_ret (pe_tup (pa_cons pe_str (pa_cons (pv 2) (pa_cons (pv 3) pa_nil))))))))))), ?_⟩)
  obtain ⟨_, rfl, S, l, rfl, L, h⟩ := h
  walk_at "rd"
  refine b_next L (by decide) fun pick H1 a1 b1 L1 k1 => ?_
  walk_at "rd"
  refine b_next L1 (by decide) fun m0 H2 a2 b2 L2 k2 => ?_
  have k02 := k1.trans k2
  clear k1 k2 L1
  walk_at "rd"
  refine r_cut (fun σ H' => LB K S l H' ∧ Keep S H H' ∧ ∃ (m e : Int) (y4 y5 y6 : Option V), Nr m e ∧ σ = [some (.ref S.a), some (.int pick), some (.int m), some (.int e), y4, y5, y6]) ?_ ?_
  · walk_at "rd"
    refine ⟨by show 2 ≤ sizeLine; decide, fun p3 n3 => ?_⟩
    have L3 := L2.new n3 (.lst [.int 4, .int 5])
    have k3 := k02.trans (Keep.of (same_upd n3 (.lst [.int 4, .int 5])))
    refine ⟨p3, [.int 4, .int 5], rfl, .inl (SqL.of upd_same), rfl, rfl, ?_⟩
    generalize upd H2 p3 (.lst [.int 4, .int 5]) = H3 at L3 k3 ⊢
    clear L2 k02
    refine r_bl (r_ifTF (fun _ => ?_) (fun _ => ?_))
    · walk_at "rd"
      refine ⟨by show 13 ≤ sizeLine; decide, fun p4 n4 => ?_⟩
      have hE : upd H3 p4 (.lst (edges13.map V.int)) p4 = some (.lst (edges13.map V.int)) := upd_same
      have L4 := L3.new n4 (.lst (edges13.map V.int))
      have k4 := k3.trans (Keep.of (same_upd n4 (.lst (edges13.map V.int))))
      have pa := L3.ne_free n4
      walk_at "rd"
      refine b_next L4 (by decide) fun r5 H5 a5 b5 L5 k5 => ?_
      obtain ⟨v, hv, ev⟩ := atI_ints (ns := edges13) (k := r5) a5 b5
      refine r_ixL (SqL.of (k5 _ _ pa hE)) ev ?_
      walk_at "rd"
      refine b_next L5 (by decide) fun r6 H6 a6 b6 L6 k6 => ?_
      walk_at "rd"
      exact ⟨L6, (k4.trans k5).trans k6, _, _, _, _, _, nr_low (by have := edges13_in v hv; omega) (by decide) (by decide), rfl⟩
    · walk_at "rd"
      refine ⟨by show 3 ≤ sizeLine; decide, fun p4 n4 => ?_⟩
      have L4 := L3.new n4 (.lst [.int 6, .int 7, .int 8])
      have k4 := k3.trans (Keep.of (same_upd n4 (.lst [.int 6, .int 7, .int 8])))
      refine ⟨p4, [.int 6, .int 7, .int 8], rfl, .inl (SqL.of upd_same), rfl, rfl, ?_⟩
      generalize upd H3 p4 (.lst [.int 6, .int 7, .int 8]) = H4 at L4 k4 ⊢
      clear L3 k3
      refine r_bl (r_ifTF (fun _ => ?_) (fun _ => ?_))
      · walk_at "rd"
        refine b_next L4 (by decide) fun r5 H5 a5 b5 L5 k5 => ?_
        walk_at "rd"
        refine b_next L5 (by decide) fun r6 H6 a6 b6 L6 k6 => ?_
        walk_at "rd"
        exact ⟨L6, (k4.trans k5).trans k6, _, _, _, _, _, nr_low (by omega) (by omega) (by omega), rfl⟩
      walk_at "rd"
      refine r_ite (fun c => ?_) (fun c => ?_)
      · walk_at "rd"
        refine b_next L4 (by decide) fun r5 H5 a5 b5 L5 k5 => ?_
        walk_at "rd"
        refine b_pickI (xs := far10.map V.int) (-1000000000) 1000000000 L5 rfl (by show 10 ≤ sizeLine; decide) (by decide) rfl (fun v hv => by
          obtain ⟨z, hz, rfl⟩ := List.mem_map.mp hv
          exact ⟨z, rfl, far10_in z hz⟩) fun r6 H6 a6 b6 _ L6 k6 => ?_
        walk_at "rd"
        exact ⟨L6, (k4.trans k5).trans k6, _, _, _, _, _, ⟨low_big (k := 1) (by omega) (by decide), .inr ⟨by omega, a6, b6⟩⟩, rfl⟩
      walk_at "rd"
      refine r_ite (fun c => ?_) (fun c => ?_)
      · walk_at "rd"
        refine b_next L4 (by decide) fun r5 H5 a5 b5 L5 k5 => ?_
        have k5 := k4.trans k5
        walk_at "rd"
        refine r_turns (by omega) (by omega) (fun i σ H' => H5 = H' ∧ ∃ (y6 : Option V), σ = [some (.ref S.a), some (.int pick), some (.int m0), some (.int 0), none, some (.int (10 ^ (i + 1))), y6]) ⟨rfl, none, rfl⟩ ?_ ?_
        · rintro i σ _ hi ⟨rfl, y6, rfl⟩
          walk_at "rd"
          exact ⟨rfl, _, by rw [show (10 : Int) ^ (i + 1 + 1) = 10 ^ (i + 1) * 10 from Int.pow_succ _ _]; rfl⟩
        rintro σ _ ⟨rfl, y6, rfl⟩
        walk_at "rd"
        refine b_next L5 (Int.pow_pos (by decide)) fun r6 H6 a6 b6 L6 k6 => ?_
        have e6 : r6.natAbs < 10 ^ (60 + 41 * 0) := by
          have h1 : (10 : Int) ^ (r5.toNat + 1) ≤ 10 ^ 60 := by
            have h2 := pow10_le (a := r5.toNat + 1) (b := 60) (by omega)
            exact_mod_cast h2
          have : (10 : Int) ^ 60 = ((10 ^ 60 : Nat) : Int) := by rw [Int.natCast_pow]; rfl
          omega
        have k6 := k5.trans k6
        walk_at "rd"
        refine b_next L6 (by decide) fun r7 H7 a7 b7 L7 k7 => ?_
        have k7 := k6.trans k7
        walk_at "rd"
        obtain ⟨kk, f5, e⟩ := L7.at_
        refine r_ite (fun c => ?_) (fun c => ?_)
        · walk_at "rd"
          refine r_ixL (SqL.of e) rfl ?_
          walk_at "rd"
          refine r_ite (fun c => ?_) (fun c => ?_)
          · walk_at "rd"
            refine r_ixL (SqL.of e) rfl ?_
            walk_at "rd"
            refine r_setL e rfl ?_
            walk_at "rd"
            have L8 := L7.put kk l (f5 - 1)
            have k8 := k7.trans (Keep.put (H := H7) (.lst [.ref S.nl, .int kk, .int l, .ref S.sl, .int (f5 - 1)]))
            refine ⟨by show 2 ≤ sizeLine; decide, fun p8 n8 => ?_⟩
            have L8' := L8.new n8 (.lst [.int 8, .int 46])
            have s8 := same_upd n8 (.lst [.int 8, .int 46])
            have ne8 := L8.ne_free n8
            have g8 : upd (upd H7 S.a (.lst [.ref S.nl, .int kk, .int l, .ref S.sl, .int (f5 - 1)])) p8 (.lst [.int 8, .int 46]) p8 = some (.lst [.int 8, .int 46]) := upd_same
            walk_at "rd"
            refine b_next L8' (by decide) fun r9 H9 a9 b9 L9 k9 => ?_
            walk_at "rd"
            refine .inr ⟨_, rfl, ?_⟩
            have g9 := k9 _ _ ne8 g8
            obtain ⟨tm, htm, htm2, etm⟩ : ∃ tm : Int, 0 < tm ∧ tm ≤ 46 ∧ atI [V.int 8, V.int 46] (if decide (r9 = 0) = true then 1 else 0) = some (.int tm) := by
              by_cases q : r9 = 0
              · rw [if_pos (decide_eq_true q)]
                exact ⟨46, by decide, by decide, atI_nat (j := 1) rfl⟩
              · rw [if_neg (by simp [q])]
                exact ⟨8, by decide, by decide, atI_nat (j := 0) rfl⟩
            refine r_ixL (SqL.of g9) etm ?_
            walk_at "rd"
            refine b_next L9 htm fun r10 H10 a10 b10 L10 k10 => ?_
            have k10 := ((k8.trans (Keep.of s8)).trans k9).trans k10
            walk_at "rd"
            refine r_turns (by omega) (by omega) (fun i σ H' => LB K S l H' ∧ Keep S H H' ∧ i ≤ 45 ∧ ∃ (x : Int) (y5 : Option V), x.natAbs < 10 ^ (60 + 41 * i) ∧ σ = [some (.ref S.a), some (.int pick), some (.int x), some (.int (r7 - 45)), none, some (.int (10 ^ (r5.toNat + 1))), y5]) ⟨L10, k10, Nat.zero_le _, r6, _, e6, rfl⟩ ?_ ?_
            · rintro i σ H11 hi ⟨L11, k11, hi2, x, y5, hx, rfl⟩
              walk_at "rd"
              refine r_I (mulx_ok (abs10 hx) (b := 200) (by decide +kernel) (by omega)) ?_
              walk_at "rd"
              refine b_next L11 (by decide) fun r12 H12 a12 b12 L12 k12 => ?_
              walk_at "rd"
              exact ⟨L12, k11.trans k12, by omega, _, _, turn10b hx a12 b12, rfl⟩
            · rintro σ H11 ⟨L11, k11, hi2, x, y5, hx, rfl⟩
              walk_at "rd"
              exact ⟨L11, k11, _, _, _, _, _, ⟨low_big hx (by omega), .inl ⟨by omega, by omega⟩⟩, rfl⟩
          · walk_at "rd"
            exact ⟨L7, k7, _, _, _, _, _, ⟨low_big e6 (by decide), .inl ⟨by omega, by omega⟩⟩, rfl⟩
        · walk_at "rd"
          exact ⟨L7, k7, _, _, _, _, _, ⟨low_big e6 (by decide), .inl ⟨by omega, by omega⟩⟩, rfl⟩
      · walk_at "rd"
        exact ⟨L4, k4, _, _, _, _, _, nr_low (by omega) (by decide) (by decide), rfl⟩
  · rintro σ H3 ⟨L3, k3, m, e, y4, y5, y6, hnr, rfl⟩
    walk_at "rd"
    refine b_pick (xs := [.int m, .int (-m)]) L3 rfl (by show 2 ≤ sizeLine; decide) (by decide) rfl fun v H4 hv L4 k4 => ?_
    obtain ⟨z, rfl, hz⟩ : ∃ z, v = V.int z ∧ Nr z e := by
      rcases List.mem_cons.mp hv with q | q
      · exact ⟨_, q, hnr⟩
      · exact ⟨_, by simpa using q, nr_neg hnr⟩
    walk_at "rd"
    refine ⟨_, _, rfl, z, e, rfl, rfl, hz.1, fun p m' e' H5 hn np hp s5 => ?_⟩
    refine r_gtup (SqT.of hp) rfl ?_
    walk_at "rd"
    refine ⟨by show 3 ≤ sizeLine; decide, fun q nq => ?_⟩
    have L6 := (L4.same s5).new nq (.tup [.str "number", .int m', .int e'])
    exact h (.ref q) m' e' _ (nk_of hz hn) (.tup upd_same (.cons (.str _) (.cons (.int _) (.cons (.int _) .nil)))) L6 (((k3.trans k4).trans (Keep.of s5)).trans (Keep.of (same_upd nq _)))
theorem ok__law_leaf (F : FunD K "_law_leaf" "_law_leaf" (defArgs s__law_leaf) (defBody s__law_leaf) (defScope s__law_leaf) [] [] (glAd "_law_leaf" K) fd) (m : mg "_law_leaf" = some (.ref (glAd "_law_leaf" K))) (nb : Nm w K mg) (c__law_next : Cal P w K mg base 1 "_law_next" (sp__law_next K) []) (c__law_number : Cal P w K mg base 3 "_law_number" (sp__law_number K) []) (c__law_points : Cal P w K mg base 2 "_law_points" (sp__law_points K) []) (c__law_octets : Cal P w K mg base 2 "_law_octets" (sp__law_octets K) []) : Cal P w K mg base 4 "_law_leaf" (sp__law_leaf K) [] := by
  refine calD F m sc__law_leaf (fun _ _ _ _ _ _ us hl => match us, hl with | [_, _], _ => rfl) len2 (fun cdv A outer s H vs Q E hr h => ⟨_, (pss_cons (ps_set (i := 2) sc__law_leaf.nd rfl (Or.inl rfl) (pe_ix ix_list (pv 1) (pe_c c__law_next hr (by decide) rfl (pa_cons (pv 0) (pa_cons (pe_callB call_len_seq (by rfl) nb.len PySem.boot_len (pa_cons (pv 1) pa_nil)) pa_nil))) (fun _ _ => rfl)))
    (pss_cons (ps_if (pt_cmpR op_eq (pv 2) pe_str (nomark _))
    (pss_one (ps_ret (pe_tup (pa_cons pe_str (pa_cons (pe_cmpR op_eq (pe_c c__law_next hr (by decide) rfl (pa_cons (pv 0) (pa_cons pe_int pa_nil))) pe_int (nomark _)) pa_nil)))))
    pss_nil)
    (pss_cons (ps_if (pt_cmpR op_eq (pv 2) pe_str (nomark _))
    (pss_one (ps_ret (pe_c c__law_number hr (by decide) rfl (pa_cons (pv 0) pa_nil))))
    pss_nil)
    (pss_cons (ps_if (pt_cmpR op_eq (pv 2) pe_str (nomark _))
    (pss_one (ps_ret (pe_tup (pa_cons pe_str (pa_cons (pe_c c__law_octets hr (by decide) rfl (pa_cons (pv 0) pa_nil)) pa_nil)))))
    pss_nil)
    (pss_cons (ps_if (pt_cmpR op_eq (pv 2) pe_str (nomark _))
    (pss_one (ps_ret (pe_tup (pa_cons pe_str (pa_cons (pe_c c__law_points hr (by decide) rfl (pa_cons (pv 0) pa_nil)) pa_nil)))))
    pss_nil)
    (pss_one (ps_ret (pe_tup (pa_cons pe_str pa_nil))))))))), ?_⟩)
  obtain ⟨_, _, rfl, S, l, kl, ks, rfl, rfl, hne, hk, ⟨ks0, ksl, ksm⟩, L, h⟩ := h
  walk_at "rd"
  refine ⟨kl, _, rfl, .inl (SqL.of hk), ?_⟩
  rw [List.length_map]
  walk_at "rd"
  refine b_next L (by omega) fun r1 H1 a1 b1 L1 k1 => ?_
  have hk1 := k1 _ _ hne hk
  have hr : r1.toNat < ks.length := by omega
  have er : r1 = ((r1.toNat : Nat) : Int) := by omega
  have ex : atI (ks.map V.str) r1 = some (V.str ks[r1.toNat]) := by
    have q := atI_nat (xs := ks.map V.str) (j := r1.toNat) (v := V.str ks[r1.toNat]) (by rw [List.getElem?_map, List.getElem?_eq_getElem hr]; rfl)
    rw [← er] at q
    exact q
  have hm : ks[r1.toNat] ∈ ks := List.getElem_mem hr
  generalize ks[r1.toNat] = kk at ex hm
  refine r_ixL (SqL.of hk1) ex ?_
  rcases ksm kk hm with e | e | e | e | e <;> subst e
  · walk_at "rd"
    refine r_iteN (show ¬ ("null" : Str) = "truth" by decide +kernel) ?_
    walk_at "rd"
    refine r_iteN (show ¬ ("null" : Str) = "number" by decide +kernel) ?_
    walk_at "rd"
    refine r_iteN (show ¬ ("null" : Str) = "bytes" by decide +kernel) ?_
    walk_at "rd"
    refine r_iteN (show ¬ ("null" : Str) = "text" by decide +kernel) ?_
    walk_at "rd"
    refine ⟨by show 1 ≤ sizeLine; decide, fun q nq => ?_⟩
    obtain ⟨H3, e3, s3, g3⟩ := new_s (H := H1) nq (.tup [.str "null"])
    rw [e3]
    exact h (.ref q) "null" [] H3 .null (.tup g3 (.cons (.str _) .nil)) (L1.same s3) (k1.trans (Keep.of s3))
  · walk_at "rd"
    refine r_itep (show ("truth" : Str) = "truth" from rfl) ?_
    walk_at "rd"
    refine b_next L1 (by decide) fun r2 H2 a2 b2 L2 k2 => ?_
    walk_at "rd"
    refine ⟨by show 2 ≤ sizeLine; decide, fun q nq => ?_⟩
    obtain ⟨H3, e3, s3, g3⟩ := new_s (H := H2) nq (.tup [.str "truth", .bl (decide (r2 = 0))])
    rw [e3]
    exact h (.ref q) "truth" [.bool (decide (r2 = 0))] H3 (.truth _) (.tup g3 (.cons (.str _) (.cons (.bl _) .nil))) (L2.same s3) ((k1.trans k2).trans (Keep.of s3))
  · walk_at "rd"
    refine r_iteN (show ¬ ("number" : Str) = "truth" by decide +kernel) ?_
    walk_at "rd"
    refine r_itep (show ("number" : Str) = "number" from rfl) ?_
    walk_at "rd"
    refine ⟨_, rfl, S, l, rfl, L1, fun v m e H2 nf tp L2 k2 => ?_⟩
    exact h v "number" _ H2 (.number m e nf) tp L2 (k1.trans k2)
  · walk_at "rd"
    refine r_iteN (show ¬ ("bytes" : Str) = "truth" by decide +kernel) ?_
    walk_at "rd"
    refine r_iteN (show ¬ ("bytes" : Str) = "number" by decide +kernel) ?_
    walk_at "rd"
    refine r_itep (show ("bytes" : Str) = "bytes" from rfl) ?_
    walk_at "rd"
    refine ⟨_, rfl, S, l, rfl, L1, fun p os H2 g2 ho L2 k2 => ?_⟩
    walk_at "rd"
    refine ⟨by show 2 ≤ sizeLine; decide, fun q nq => ?_⟩
    obtain ⟨H3, e3, s3, g3⟩ := new_s (H := H2) nq (.tup [.str "bytes", .ref p])
    rw [e3]
    exact h (.ref q) "bytes" _ H3 (.bytes os ho) (.tup g3 (.cons (.str _) (.cons (tp_kd (s3 _ _ g2)) .nil))) (L2.same s3) ((k1.trans k2).trans (Keep.of s3))
  · walk_at "rd"
    refine r_iteN (show ¬ ("text" : Str) = "truth" by decide +kernel) ?_
    walk_at "rd"
    refine r_iteN (show ¬ ("text" : Str) = "number" by decide +kernel) ?_
    walk_at "rd"
    refine r_iteN (show ¬ ("text" : Str) = "bytes" by decide +kernel) ?_
    walk_at "rd"
    refine r_itep (show ("text" : Str) = "text" from rfl) ?_
    walk_at "rd"
    refine ⟨_, rfl, S, l, rfl, L1, fun p os H2 g2 ho L2 k2 => ?_⟩
    walk_at "rd"
    refine ⟨by show 2 ≤ sizeLine; decide, fun q nq => ?_⟩
    obtain ⟨H3, e3, s3, g3⟩ := new_s (H := H2) nq (.tup [.str "text", .ref p])
    rw [e3]
    exact h (.ref q) "text" _ H3 (.text os ho) (.tup g3 (.cons (.str _) (.cons (tp_kd (s3 _ _ g2)) .nil))) (L2.same s3) ((k1.trans k2).trans (Keep.of s3))
theorem ok__law_value (n : Nat) (F : FunD K "_law_value" "_law_value" (defArgs s__law_value) (defBody s__law_value) (defScope s__law_value) [] [] (glAd "_law_value" K) fd) (m : mg "_law_value" = some (.ref (glAd "_law_value" K))) (nb : Nm w K mg) (c__law_next : Cal P w K mg base 1 "_law_next" (sp__law_next K) []) (c__law_points : Cal P w K mg base 2 "_law_points" (sp__law_points K) []) (c__law_leaf : Cal P w K mg base 4 "_law_leaf" (sp__law_leaf K) []) (c__law_value : Cal P w K mg base (5 + n) "_law_value" (sp__law_value K n) []) : Cal P w K mg base (5 + n + 1) "_law_value" (sp__law_value K (n + 1)) [] := by
  refine calD F m sc__law_value (fun _ _ _ _ _ _ us hl => match us, hl with | [_, _, _, _], _ => rfl) len4 (fun cdv A outer s H vs Q E hr h => ⟨_, (pss_cons (ps_asg (pe_op op_sub (pe_ix ix_list (pv 0) pe_int (fun _ _ => rfl)) pe_int) (pg_sub (pv 0) pe_int set_list))
    (pss_cons (ps_set (i := 4) sc__law_value.nd rfl (Or.inl rfl) (pe_c c__law_next hr (by omega) rfl (pa_cons (pv 0) (pa_cons pe_int pa_nil))))
    (pss_cons (ps_if (PW.pt (pw_or (pt_cmpR op_eq (pv 1) pe_int (nomark _)) (pw_or (pt_cmpR op_le (pe_ix ix_list (pv 0) pe_int (fun _ _ => rfl)) pe_int (nomark _)) (pw_or1 (pt_cmpR op_lt (pv 4) pe_int (nomark _))))))
    (pss_one (ps_ret (pe_c c__law_leaf hr (by omega) rfl (pa_cons (pv 0) (pa_cons (pv 2) pa_nil)))))
    pss_nil)
    (pss_cons (ps_set (i := 5) sc__law_value.nd rfl (Or.inl rfl) (pe_c c__law_next hr (by omega) rfl (pa_cons (pv 0) (pa_cons pe_int pa_nil))))
    (pss_cut (ps_if (PW.pt (pw_and (pt_cmpR op_gt (pe_ix ix_list (pv 0) pe_int (fun _ _ => rfl)) pe_int (nomark _)) (pw_and1 (pt_cmpR op_eq (pe_c c__law_next hr (by omega) rfl (pa_cons (pv 0) (pa_cons pe_int pa_nil))) pe_int (nomark _)))))
    (pss_cons (ps_asg (pe_op op_sub (pe_ix ix_list (pv 0) pe_int (fun _ _ => rfl)) pe_int) (pg_sub (pv 0) pe_int set_list))
    (pss_one (ps_set (i := 5) sc__law_value.nd rfl (Or.inl rfl) (pe_op op_add pe_int (pe_c c__law_next hr (by omega) rfl (pa_cons (pv 0) (pa_cons pe_int pa_nil)))))))
    pss_nil)
    (pss_cons (ps_if (PW.pt (pw_or (pt_cmpR op_eq (pv 4) pe_int (nomark _)) (pw_or1 (pt_not (pt_val (pv 3))))))
    (pss_one (ps_ret (pe_tup (pa_cons pe_str (pa_cons (pe_callTy call_tuple_of (by rfl) nb.tuple (by decide +kernel) (pa_cons (pe_lc (own := [("k", 6)]) (g := gName 6) (tt := tYes) rfl sc__law_value.nd (pi_range1 rfl nb.range (pa_cons (pv 5) pa_nil)) (blkOk_by (N := ["state", "deep", "kinds", "has_maps", "pick", "many", "k", "entries", "key", "entry"]) (sc := defScope s__law_value) (by decide +kernel)) (fun _ _ _ _ _ => pg_name (i := 6) sc__law_value.nd rfl (Or.inl rfl)) (fun _ _ _ _ _ => pts_nil) (fun _ _ _ _ _ => (pe_c c__law_value hr (by omega) rfl (pa_cons (pv 0) (pa_cons (pe_op op_sub (pv 1) pe_int) (pa_cons (pv 2) (pa_cons (pv 3) pa_nil))))))) pa_nil)) pa_nil)))))
    pss_nil)
    (pss_cons (ps_set (i := 7) sc__law_value.nd rfl (Or.inl rfl) (pe_lst pa_nil))
    (pss_cons (ps_for PassesOwn.never rfl (pi_range1 rfl nb.range (pa_cons (pv 5) pa_nil)) (pg_name (i := 6) sc__law_value.nd rfl (Or.inl rfl))
    (pss_cons (ps_set (i := 8) sc__law_value.nd rfl (Or.inl rfl) (pe_c c__law_points hr (by omega) rfl (pa_cons (pv 0) pa_nil)))
    (pss_one (ps_if (pt_cmpR (op_notInD (hu65 hr)) (pv 8) (pe_lc (own := [("entry", 9)]) (g := gName 9) (tt := tYes) rfl sc__law_value.nd (pi_list (pv 7)) (blkOk_by (N := ["state", "deep", "kinds", "has_maps", "pick", "many", "k", "entries", "key", "entry"]) (sc := defScope s__law_value) (by decide +kernel)) (fun _ _ _ _ _ => pg_name (i := 9) sc__law_value.nd rfl (Or.inl rfl)) (fun _ _ _ _ _ => pts_nil) (fun _ _ _ _ _ => (pe_ix (show IxR _ (rIxT K) from ix_tup) (pv 9) pe_int (fun _ _ => rfl)))) rfl)
    (pss_one (ps_expr (pe_bm PySem.F.plainAttrs_list PySem.F.slot_list_append PySem.F.type_list_append mt_append (pv 7) (pa_cons (pe_tup (pa_cons (pv 8) (pa_cons (pe_c c__law_value hr (by omega) rfl (pa_cons (pv 0) (pa_cons (pe_op op_sub (pv 1) pe_int) (pa_cons (pv 2) (pa_cons (pv 3) pa_nil))))) pa_nil))) pa_nil))))
    pss_nil))))
    (pss_one (ps_ret (pe_tup (pa_cons pe_str (pa_cons (pe_callTy call_tuple_of (by rfl) nb.tuple (by decide +kernel) (pa_cons (pe_callB (cr_sortedE hr.units) (by rfl) nb.sorted (by decide +kernel) (pa_cons (pv 7) pa_nil)) pa_nil)) pa_nil))))))))))))), ?_⟩)
  obtain ⟨_, _, _, _, rfl, S, l0, deep, kl, ks, mp, rfl, rfl, rfl, rfl, hkn, hk, hks, hd, L, h⟩ := h
  obtain ⟨k0, f5, e⟩ := L.at_
  walk_at "rd"
  refine r_ixL (SqL.of e) rfl ?_
  walk_at "rd"
  refine r_setL e rfl ?_
  walk_at "rd"
  have L1 := L.put k0 (l0 - 1) f5
  have kk1 : Keep S H (upd H S.a (.lst [.ref S.nl, .int k0, .int (l0 - 1), .ref S.sl, .int f5])) := Keep.put _
  refine b_next L1 (by decide) fun pick H2 a2 b2 L2 k2 => ?_
  have k2 := kk1.trans k2
  clear L1 kk1
  obtain ⟨k0', f5', e2⟩ := L2.at_
  walk_at "ri"
  refine r_ifB (decide (deep = 0 ∨ l0 - 1 ≤ 0 ∨ pick < 2)) ?_ ?_
  · intro R hR
    walk_at "rd"
    refine r_ite (fun c => ?_) (fun c => ?_)
    · walk_at "rd"
      rw [decide_eq_true (.inl (by omega))] at hR
      exact hR
    walk_at "rd"
    refine r_ixL (SqL.of e2) rfl ?_
    walk_at "rd"
    refine r_ite (fun c2 => ?_) (fun c2 => ?_)
    · walk_at "rd"
      rw [decide_eq_true (.inr (.inl c2))] at hR
      exact hR
    walk_at "rd"
    have ed : decide (pick < 2) = decide (deep = 0 ∨ l0 - 1 ≤ 0 ∨ pick < 2) := decide_eq_decide.mpr ⟨fun q => .inr (.inr q), fun q => by omega⟩
    rw [ed]
    exact hR
  refine r_ite (fun c => ?_) (fun c => ?_)
  · walk_at "rd"
    exact ⟨_, _, rfl, S, _, kl, ks, rfl, rfl, hkn, k2 _ _ hkn hk, hks, L2, fun v k r H3 hl hv L3 k3 => h v (.lf k r) _ H3 (gf_leaf hl _) (bud_leaf (Nat.le_refl _)) hv L3 (k2.trans k3)⟩
  obtain ⟨deep, rfl⟩ : ∃ d, deep = d + 1 := ⟨deep - 1, by omega⟩
  have ed : ((deep + 1 : Nat) : Int) - 1 = ((deep : Nat) : Int) := by omega
  have hl0 : 0 < l0 - 1 := by omega
  clear e2
  walk_at "rd"
  refine b_next L2 (by decide) fun m0 H3 a3 b3 L3 k3 => ?_
  have k3 := k2.trans k3
  clear L2 k2
  walk_at "rd"
  refine r_cut (fun σ H' => LB K S (l0 - 1) H' ∧ Keep S H H' ∧ ∃ (m : Int), 0 ≤ m ∧ m ≤ 49 ∧ σ = [some (.ref S.a), some (.int (deep + 1 : Nat)), some (.ref kl), some (.bl mp), some (.int pick), some (.int m), none, none, none, none]) ?_ ?_
  · walk_at "rd"
    obtain ⟨kk, f5, e⟩ := L3.at_
    refine r_ixL (SqL.of e) rfl ?_
    walk_at "rd"
    refine r_ite (fun c => ?_) (fun c => ?_)
    · walk_at "rd"
      refine b_next L3 (by decide) fun r5 H5 a5 b5 L5 k5 => ?_
      have k5 := k3.trans k5
      walk_at "rd"
      refine r_ite (fun c => ?_) (fun c => ?_)
      · walk_at "rd"
        obtain ⟨kk, f5, e⟩ := L5.at_
        refine r_ixL (SqL.of e) rfl ?_
        walk_at "rd"
        refine r_setL e rfl ?_
        walk_at "rd"
        have L6 := L5.put kk (l0 - 1) (f5 - 1)
        have k6 := k5.trans (Keep.put (H := H5) (.lst [.ref S.nl, .int kk, .int (l0 - 1), .ref S.sl, .int (f5 - 1)]))
        refine b_next L6 (by decide) fun r7 H7 a7 b7 L7 k7 => ?_
        walk_at "rd"
        exact ⟨L7, k6.trans k7, _, by omega, by omega, rfl⟩
      · walk_at "rd"
        exact ⟨L5, k5, _, a3, by omega, rfl⟩
    · walk_at "rd"
      exact ⟨L3, k3, _, a3, by omega, rfl⟩
  rintro σ H4 ⟨L4, k4, m, hm0, hm1, rfl⟩
  clear L3 k3
  walk_at "ri"
  refine r_ifB (decide (pick = 2 ∨ mp = false)) (fun R hR => ?_) ?_
  · walk_at "rd"
    refine r_ite (fun c => ?_) (fun c => ?_)
    · rw [decide_eq_true (.inl c)] at hR
      exact hR
    · have e : decide (pick = 2 ∨ mp = false) = !mp := by
        cases mp
        · exact decide_eq_true (.inr rfl)
        · exact decide_eq_false (fun z => z.elim c fun z => by cases z)
      rw [e] at hR
      walk_at "rd"
      exact hR
  refine r_ite (fun c => ?_) (fun c => ?_)
  · walk_at "rd"
    refine ⟨by omega, by omega, fun D nD => ?_⟩
    have DS := L4.ne_free nD
    have nD0 : H D = none := k4.free L4.ls nD
    refine lc_range (fun i H' => ∃ l' : Int, LB K S l' H' ∧ Keep S H H' ∧ ∃ (vs : List V) (ts : List Vl), ts.length = i ∧ BudL (l0 - 1) l' (vszL ts) i ∧ gfL deep ts ∧ TpAll H' vs (datL ts) ∧ H' D = some (.lst vs)) ⟨_, L4.new nD _, k4.trans (Keep.of (same_upd nD _)), [], [], rfl, budL_nil _, trivial, .nil, upd_same⟩ ?_ ?_
    · rintro i H5 hi ⟨l1, L5, k5, vs, ts, e1, eb, e2, e3, e4⟩
      walk_at "rd"
      refine ⟨rfl, ?_⟩
      walk_at "rd"
      refine ⟨_, _, _, _, rfl, S, l1, deep, kl, ks, mp, rfl, congrArg V.int ed, rfl, rfl, hkn, k5 _ _ hkn hk, hks, by omega, L5, fun v t l2 H6 ok bd tp L6 k6 => ?_⟩
      have hD6 := k6 _ _ DS e4
      have hl : vs.length = i := by rw [tpAll_len e3, datL_map, List.length_map, e1]
      have tk6 := (keep_tk L5.ls k6).trans (tk_put (o := .lst (vs ++ [v])) hD6)
      refine ⟨vs, hD6, small1000 (by omega), l2, L4.away nD L6 _, keep_away (k5.trans k6) nD0, vs ++ [v], ts ++ [t], by rw [List.length_append, e1]; rfl, by rw [vszL_app]; exact budL_cons eb bd, gfL_app e2 ⟨ok, trivial⟩, ?_, upd_same⟩
      rw [datL_app]
      exact tpAll_app (TpAll.tk tk6 _ _ e3) (.cons (Tp.tk (tk_put hD6) _ _ tp) .nil)
    · rintro H5 ⟨l1, L5, k5, vs, ts, e1, eb, e2, e3, e4⟩
      walk_at "rd"
      refine ⟨D, _, rfl, .inl ⟨SqL.of e4, fun t nt => ?_⟩⟩
      walk_at "rd"
      refine ⟨by show 2 ≤ sizeLine; decide, fun q nq => ?_⟩
      have s7 := (same_upd nt (.tup vs)).trans (same_upd nq (.tup [.str "list", .ref t]))
      refine h (.ref q) (.ls ts) _ _ ⟨by omega, e2⟩ (bud_node hl0 (by omega) eb) (.tup upd_same (.cons (.str _) (.cons (.tup (same_upd nq _ _ _ upd_same) (TpAll.tk (Same.tk s7) _ _ e3)) .nil))) (L5.same s7) (k5.trans (Keep.of s7))
  · skip
    walk_at "rd"
    refine ⟨Nat.zero_le _, fun D nD => ?_⟩
    have DS := L4.ne_free nD
    have nD0 : H D = none := k4.free L4.ls nD
    walk_at "rd"
    refine r_turns (by omega) (by omega) (fun i σ H' => ∃ l' : Int, LB K S l' H' ∧ Keep S H H' ∧ ∃ (es : List (Ent × Vl)) (y4 y6 y7 : Option V), es.length ≤ i ∧ BudL (l0 - 1) l' ((es.map fun e => vsz e.2).sum) es.length ∧ (∀ e ∈ es, EvF K H' deep e) ∧ (es.map (·.1.k)).Nodup ∧ H' D = some (.lst (es.map fun e => V.ref e.1.t)) ∧ σ = [some (.ref S.a), some (.int (deep + 1 : Nat)), some (.ref kl), some (.bl mp), some (.int pick), some (.int m), y4, some (.ref D), y6, y7])
      ⟨_, L4.new nD _, k4.trans (Keep.of (same_upd nD _)), [], _, _, _, Nat.le_refl _, budL_nil _, fun _ h => absurd h (by simp), List.nodup_nil, upd_same, rfl⟩ ?_ ?_
    · rintro i σ H5 hi ⟨l1, L5, k5, es, y4, y6, y7, e1, eb, e2, e3, e4, rfl⟩
      walk_at "rd"
      refine ⟨_, rfl, S, l1, rfl, L5, fun q ps H6 hq hpl L6 k6 => ?_⟩
      have hD6 := k6 _ _ DS e4
      have e2 : ∀ e ∈ es, EvF K H6 deep e := fun e he => (e2 e he).tk (keep_tk L5.ls k6)
      have k6 := k5.trans k6
      clear L5 k5 e4
      walk_at "rd"
      refine ⟨D, rfl, ⟨_, SqL.of hD6⟩, fun D2 nD2 => ?_⟩
      refine lc_list (xs := es.map fun e => V.ref e.1.t) (fun j H' => Same H6 H' ∧ H' D2 = some (.lst ((es.take j).map fun e => V.ref e.1.q))) ⟨same_upd nD2 _, upd_same⟩ (fun j H' _ hh => SqL.of (hh.1 _ _ hD6)) ?_ ?_
      · rintro j x H7 hx ⟨s7, g7⟩
        obtain ⟨en, hj, rfl, et⟩ := map_get hx
        walk_at "rd"
        refine ⟨rfl, ?_⟩
        walk_at "rd"
        refine r_ixT (SqT.of (s7 _ _ (e2 en (List.mem_of_getElem? hj)).1.1)) rfl ?_
        refine ⟨_, g7, small1000 (by rw [List.length_map, List.length_take]; omega), same_away s7 nD2, ?_⟩
        rw [upd_same, et, List.map_append]
        rfl
      rintro H7 ⟨s7, g7⟩
      rw [List.length_map, List.take_length] at g7
      have L7 := L6.same s7
      have k7 := k6.trans (Keep.of s7)
      have hD7 := s7 _ _ hD6
      have hq7 := s7 _ _ hq
      have e2 : ∀ e ∈ es, EvF K H7 deep e := fun e he => (e2 e he).tk (Same.tk s7)
      clear L6 k6 hD6 hq s7
      refine ⟨kd ps, (es.map (·.1.k)).map kd, Tp.dp _ _ (tp_kd hq7), .lst (SqL.of g7) ?_, shaped_kd ps, shaped_kds _, ?_⟩
      · rw [List.map_map]
        exact dpa_map fun e he => Tp.dp _ _ (tp_kd (e2 e he).1.2)
      rw [eqv_kds]
      refine r_bl (r_iten (fun c => ?_) (fun c => ?_))
      · walk_at "rd"
        refine ⟨tyL hD7, ?_⟩
        walk_at "rd"
        refine ⟨_, _, _, _, rfl, S, l1, deep, kl, ks, mp, rfl, congrArg V.int ed, rfl, rfl, hkn, k7 _ _ hkn hk, hks, by omega, L7, fun v t l2 H8 ok bd tp L8 k8 => ?_⟩
        obtain ⟨u, rfl⟩ := vl_ref tp
        have tk8 := keep_tk L7.ls k8
        have hD8 := k8 _ _ DS hD7
        walk_at "rd"
        refine ⟨by show 2 ≤ sizeLine; decide, fun T nT => ?_⟩
        have s9 := same_upd nT (.tup [.ref q, .ref u])
        have hD9 := s9 _ _ hD8
        have L9 := L8.new nT (.tup [.ref q, .ref u])
        walk_at "rd"
        refine r_app hD9 (small1000 (by rw [List.length_map]; omega)) ?_
        have tk9 := (Same.tk s9).trans (tk_put (o := .lst ((es.map fun e => V.ref e.1.t) ++ [.ref T])) hD9)
        refine ⟨l2, L4.away nD L9 _, keep_away ((k7.trans k8).trans (Keep.of s9)) nD0, es ++ [(⟨T, q, u, ps⟩, t)], _, _, _, by rw [List.length_append]; show es.length + 1 ≤ i + 1; omega, ?_, fun e he => ?_, ?_, ?_, rfl⟩
        · rw [List.map_append, List.sum_append, List.length_append]
          exact budL_cons eb bd
        · rcases List.mem_append.mp he with q1 | q1
          · exact (e2 e q1).tk (tk8.trans tk9)
          · have e5 : e = (⟨T, q, u, ps⟩, t) := by simpa using q1
            subst e5
            exact ⟨⟨tk_put hD9 _ _ upd_same, tk9 _ _ (tk8 _ _ hq7)⟩, Tp.tk tk9 _ _ tp, ok, hpl⟩
        · rw [List.map_append, List.nodup_append]
          refine ⟨e3, by simp, ?_⟩
          intro a ha b hb
          have eb : b = ps := by simpa using hb
          rw [eb]
          exact fun z => c (z ▸ ha)
        · rw [upd_same, List.map_append]
          rfl
      · walk_at "rd"
        exact ⟨l1, L7, k7, es, _, _, _, by omega, eb, e2, e3, hD7, rfl⟩
    · rintro σ H5 ⟨l1, L5, k5, es, y4, y6, y7, e1, eb, e2, e3, e4, rfl⟩
      walk_at "rd"
      refine ⟨D, es.map (·.1), rfl, ?_, fun e he => ?_, ?_, fun es' l' pe srt nl => ?_⟩
      · rw [List.map_map]
        exact SqL.of e4
      · obtain ⟨x, hx, rfl⟩ := List.mem_map.mp he
        exact (e2 x hx).1
      · rw [List.map_map]
        exact e3
      obtain ⟨zs, pz, rfl⟩ := perm_up (fun e : Ent × Vl => e.1) pe
      walk_at "rd"
      refine ⟨l', _, rfl, .inl ⟨SqL.of upd_same, fun t nt => ?_⟩⟩
      walk_at "rd"
      refine ⟨by show 2 ≤ sizeLine; decide, fun q nq => ?_⟩
      have s7 := ((same_upd nl (.lst ((zs.map fun e => e.1).map fun e => V.ref e.t))).trans (same_upd nt (.tup ((zs.map fun e => e.1).map fun e => V.ref e.t)))).trans (same_upd nq (.tup [.str "map", .ref t]))
      have e7 : ∀ e ∈ zs, EvF K _ deep e := fun e he => (e2 e (pz.mem_iff.mp he)).tk (Same.tk s7)
      have ezl := pz.length_eq
      have ezs : (zs.map fun e => vsz e.2).sum = (es.map fun e => vsz e.2).sum := (pz.map _).sum_nat
      refine h (.ref q) (.mp (zs.map fun e => (e.1.k, e.2))) _ _ ⟨?_, ?_, ?_, ?_⟩ ?_ (.tup upd_same (.cons (.str _) (.cons (.tup (same_upd nq _ _ _ upd_same) ?_) .nil))) (L5.same s7) (k5.trans (Keep.of s7))
      · rw [List.length_map, ezl]
        omega
      · rw [List.map_map] at srt ⊢
        exact srt
      · intro e he
        obtain ⟨x, hx, rfl⟩ := List.mem_map.mp he
        exact (e7 x hx).2.2.2
      · refine gfM_of fun e he => ?_
        obtain ⟨x, hx, rfl⟩ := List.mem_map.mp he
        exact (e7 x hx).2.2.1
      · show Bud l0 l1 (1 + vszM (zs.map fun e => (e.1.k, e.2)))
        rw [vszM_sum, List.length_map, List.map_map, ezl]
        have ez2 : (zs.map ((fun e : List Int × Vl => vsz e.2) ∘ fun e : Ent × Vl => (e.1.k, e.2))).sum = (es.map fun e => vsz e.2).sum := ezs
        rw [ez2]
        exact bud_map hl0 (by omega) eb
      · exact tpa_entF e7
theorem rec__law_value (F : FunD K "_law_value" "_law_value" (defArgs s__law_value) (defBody s__law_value) (defScope s__law_value) [] [] (glAd "_law_value" K) fd) (m : mg "_law_value" = some (.ref (glAd "_law_value" K))) (nb : Nm w K mg) (c__law_next : Cal P w K mg base 1 "_law_next" (sp__law_next K) []) (c__law_points : Cal P w K mg base 2 "_law_points" (sp__law_points K) []) (c__law_leaf : Cal P w K mg base 4 "_law_leaf" (sp__law_leaf K) []) : ∀ n, Cal P w K mg base (5 + n) "_law_value" (sp__law_value K n) []
  | 0 => calD (k := 4) F m sc__law_value (fun _ _ _ _ _ _ us hl => match us, hl with | [_, _, _, _], _ => rfl) (fun _ _ _ _ h => (no__law_value h).elim) (fun _ _ _ _ _ _ _ _ _ h => (no__law_value h).elim)
  | n + 1 => ok__law_value n F m nb c__law_next c__law_points c__law_leaf (rec__law_value F m nb c__law_next c__law_points c__law_leaf n)
theorem ok__law_towered (F : FunD K "_law_towered" "_law_towered" (defArgs s__law_towered) (defBody s__law_towered) (defScope s__law_towered) [] [] (glAd "_law_towered" K) fd) (m : mg "_law_towered" = some (.ref (glAd "_law_towered" K))) (nb : Nm w K mg) (c__law_next : Cal P w K mg base 1 "_law_next" (sp__law_next K) []) : Cal P w K mg base 2 "_law_towered" (sp__law_towered K) [] := by
  refine calD F m sc__law_towered (fun _ _ _ _ _ _ us hl => match us, hl with | [_, _, _], _ => rfl) len3 (fun cdv A outer s H vs Q E hr h => ⟨_, (pss_cut (ps_if (pt_cmpR op_eq (pe_c c__law_next hr (by decide) rfl (pa_cons (pv 0) (pa_cons pe_int pa_nil))) pe_int (nomark _))
    (pss_one (ps_for PassesOwn.never rfl (pi_range1 rfl nb.range (pa_cons (pe_c c__law_next hr (by decide) rfl (pa_cons (pv 0) (pa_cons pe_int pa_nil))) pa_nil)) (pg_name (i := 3) sc__law_towered.nd rfl (Or.inl rfl))
    (pss_cons (ps_set (i := 4) sc__law_towered.nd rfl (Or.inl rfl) (pe_c c__law_next hr (by decide) rfl (pa_cons (pv 0) (pa_cons pe_int pa_nil))))
    (pss_one (ps_if (PW.pt (pw_and (pt_cmpR op_eq (pv 4) pe_int (nomark _)) (pw_and1 (pt_val (pv 2)))))
    (pss_one (ps_set (i := 1) sc__law_towered.nd rfl (Or.inl rfl) (pe_tup (pa_cons pe_str (pa_cons (pe_tup (pa_cons (pe_tup (pa_cons (pe_tup (pa_cons pe_int pa_nil)) (pa_cons (pv 1) pa_nil))) pa_nil)) pa_nil)))))
    (pss_one (ps_if (pt_cmpR op_eq (pv 4) pe_int (nomark _))
    (pss_one (ps_set (i := 1) sc__law_towered.nd rfl (Or.inl rfl) (pe_tup (pa_cons pe_str (pa_cons (pe_tup (pa_cons (pv 1) (pa_cons (pe_tup (pa_cons pe_str (pa_cons (pe_tup pa_nil) pa_nil))) pa_nil))) pa_nil)))))
    (pss_one (ps_set (i := 1) sc__law_towered.nd rfl (Or.inl rfl) (pe_tup (pa_cons pe_str (pa_cons (pe_tup (pa_cons (pv 1) pa_nil)) pa_nil))))))))))))
    pss_nil)
    (pss_one (ps_ret (pv 1)))), ?_⟩)
  obtain ⟨_, v, _, rfl, S, l, t, mp, rfl, rfl, L, tp, ok, h⟩ := h
  walk_at "rd"
  refine r_cut (fun σ H' => LB K S l H' ∧ Keep S H H' ∧ ∃ (v : V) (t' : Vl) (n : Nat) (y2 y3 : Option V), n ≤ 24 ∧ t'.gf n ∧ vsz t' ≤ vsz t + 40 ∧ Tp H' v t'.dat ∧ σ = [some (.ref S.a), some v, some (.bl mp), y2, y3]) ?_ ?_
  · walk_at "rd"
    refine b_next L (by decide) fun r1 H1 a1 b1 L1 k1 => ?_
    have tp := Tp.tk (keep_tk L.ls k1) _ _ tp
    walk_at "rd"
    refine r_ite (fun c => ?_) (fun c => ?_)
    · walk_at "rd"
      refine b_next L1 (by decide) fun r2 H2 a2 b2 L2 k2 => ?_
      have tp := Tp.tk (keep_tk L1.ls k2) _ _ tp
      have k2 := k1.trans k2
      walk_at "rd"
      refine r_turns (by omega) (by omega) (fun i σ H' => LB K S l H' ∧ Keep S H H' ∧ ∃ (v : V) (t' : Vl) (y2 y3 : Option V), i ≤ 20 ∧ t'.gf (4 + i) ∧ vsz t' ≤ vsz t + 2 * i ∧ Tp H' v t'.dat ∧ σ = [some (.ref S.a), some v, some (.bl mp), y2, y3]) ⟨L2, k2, v, t, _, _, Nat.zero_le _, ok, Nat.le_refl _, tp, rfl⟩ ?_ ?_
      · rintro i σ H3 hi ⟨L3, k3, v, t', y2, y3, hi2, ok3, sz3, tp3, rfl⟩
        walk_at "rd"
        refine b_next L3 (by decide) fun r4 H4 a4 b4 L4 k4 => ?_
        have tp4 := Tp.tk (keep_tk L3.ls k4) _ _ tp3
        have k4 := k3.trans k4
        walk_at "ri"
        refine r_ifB (decide (r4 = 0 ∧ mp = true)) (fun R hR => ?_) ?_
        · walk_at "rd"
          refine r_ite (fun c => ?_) (fun c => ?_)
          · have e : decide (r4 = 0 ∧ mp = true) = mp := by
              cases mp
              · exact decide_eq_false fun z => by cases z.2
              · exact decide_eq_true ⟨c, rfl⟩
            rw [e] at hR
            walk_at "rd"
            exact hR
          · rw [decide_eq_false (fun z => c z.1)] at hR
            exact hR
        refine r_ite (fun c => ?_) (fun c => ?_)
        · walk_at "rd"
          refine ⟨by show 1 ≤ sizeLine; decide, fun p5 n5 => ?_⟩
          obtain ⟨H5, e, L5, s5, g5⟩ := new_b (o := .tup [.int 97]) L4 n5
          rw [e]
          clear e
          walk_at "rd"
          refine ⟨by show 2 ≤ sizeLine; decide, fun p6 n6 => ?_⟩
          obtain ⟨H6, e, L6, s6, g6⟩ := new_b (o := .tup [.ref p5, v]) L5 n6
          rw [e]
          clear e
          walk_at "rd"
          refine ⟨by show 1 ≤ sizeLine; decide, fun p7 n7 => ?_⟩
          obtain ⟨H7, e, L7, s7, g7⟩ := new_b (o := .tup [.ref p6]) L6 n7
          rw [e]
          clear e
          walk_at "rd"
          refine ⟨by show 2 ≤ sizeLine; decide, fun p8 n8 => ?_⟩
          obtain ⟨H8, e, L8, s8, g8⟩ := new_b (o := .tup [.str "map", .ref p7]) L7 n8
          rw [e]
          clear e
          walk_at "rd"
          have sa := (s5.trans s6).trans (s7.trans s8)
          have tpv : Tp H8 v t'.dat := Tp.tk (Same.tk sa) _ _ tp4
          refine ⟨L8, k4.trans (Keep.of sa), .ref p8, .mp [([97], t')], _, _, by omega, ⟨by show 1 ≤ 49; decide, List.pairwise_singleton _ _, fun e he => ?_, ok3, trivial⟩, by show 1 + (1 + vsz t' + 0) ≤ _; omega, .tup g8 (.cons (.str _) (.cons (.tup (s8 _ _ g7) (.cons (.tup ((s7.trans s8) _ _ g6) (.cons (tp_kd ((s6.trans (s7.trans s8)) _ _ g5)) (.cons tpv .nil))) .nil)) .nil)), rfl⟩
          rw [List.mem_singleton.mp he]
          exact ⟨by show 1 ≤ 200; decide, fun p hp => by
            rw [List.mem_singleton.mp hp]
            exact ⟨by decide, by decide, .inl (by decide)⟩⟩
        walk_at "rd"
        refine r_ite (fun c => ?_) (fun c => ?_)
        · walk_at "rd"
          refine ⟨Nat.zero_le _, fun p5 n5 => ?_⟩
          obtain ⟨H5, e, L5, s5, g5⟩ := new_b (o := .tup []) L4 n5
          rw [e]
          clear e
          walk_at "rd"
          refine ⟨by show 2 ≤ sizeLine; decide, fun p6 n6 => ?_⟩
          obtain ⟨H6, e, L6, s6, g6⟩ := new_b (o := .tup [.str "list", .ref p5]) L5 n6
          rw [e]
          clear e
          walk_at "rd"
          refine ⟨by show 2 ≤ sizeLine; decide, fun p7 n7 => ?_⟩
          obtain ⟨H7, e, L7, s7, g7⟩ := new_b (o := .tup [v, .ref p6]) L6 n7
          rw [e]
          clear e
          walk_at "rd"
          refine ⟨by show 2 ≤ sizeLine; decide, fun p8 n8 => ?_⟩
          obtain ⟨H8, e, L8, s8, g8⟩ := new_b (o := .tup [.str "list", .ref p7]) L7 n8
          rw [e]
          clear e
          walk_at "rd"
          have sa := (s5.trans s6).trans (s7.trans s8)
          have tpv : Tp H8 v t'.dat := Tp.tk (Same.tk sa) _ _ tp4
          have okE : (Vl.ls []).gf (4 + i) := by
            rw [Nat.add_comm]
            exact ⟨Nat.zero_le _, trivial⟩
          exact ⟨L8, k4.trans (Keep.of sa), .ref p8, .ls [t', .ls []], _, _, by omega, ⟨by show 2 ≤ 49; decide, ok3, okE, trivial⟩, by show 1 + (vsz t' + (1 + 0 + 0)) ≤ _; omega, .tup g8 (.cons (.str _) (.cons (.tup (s8 _ _ g7) (.cons tpv (.cons (.tup ((s7.trans s8) _ _ g6) (.cons (.str _) (.cons (.tup ((s6.trans (s7.trans s8)) _ _ g5) .nil) .nil))) .nil))) .nil)), rfl⟩
        · walk_at "rd"
          refine ⟨by show 1 ≤ sizeLine; decide, fun p7 n7 => ?_⟩
          obtain ⟨H7, e, L7, s7, g7⟩ := new_b (o := .tup [v]) L4 n7
          rw [e]
          clear e
          walk_at "rd"
          refine ⟨by show 2 ≤ sizeLine; decide, fun p8 n8 => ?_⟩
          obtain ⟨H8, e, L8, s8, g8⟩ := new_b (o := .tup [.str "list", .ref p7]) L7 n8
          rw [e]
          clear e
          walk_at "rd"
          have sa := s7.trans s8
          have tpv : Tp H8 v t'.dat := Tp.tk (Same.tk sa) _ _ tp4
          exact ⟨L8, k4.trans (Keep.of sa), .ref p8, .ls [t'], _, _, by omega, ⟨by show 1 ≤ 49; decide, ok3, trivial⟩, by show 1 + (vsz t' + 0) ≤ _; omega, .tup g8 (.cons (.str _) (.cons (.tup (s8 _ _ g7) (.cons tpv .nil)) .nil)), rfl⟩
      · rintro σ H3 ⟨L3, k3, v, t', y2, y3, hi2, ok3, sz3, tp3, rfl⟩
        walk_at "rd"
        exact ⟨L3, k3, v, t', _, _, _, by omega, ok3, by omega, tp3, rfl⟩
    · walk_at "rd"
      exact ⟨L1, k1, v, t, 4, _, _, by decide, ok, by omega, tp, rfl⟩
  · rintro σ H3 ⟨L3, k3, v, t', n, y2, y3, hn, ok3, sz3, tp3, rfl⟩
    walk_at "rd"
    exact h v t' n _ hn ok3 sz3 tp3 L3 k3
theorem ok__law_far (F : FunD K "_law_far" "_law_far" (defArgs s__law_far) (defBody s__law_far) (defScope s__law_far) [] [] (glAd "_law_far" K) fd) (m : mg "_law_far" = some (.ref (glAd "_law_far" K))) (nb : Nm w K mg) (c__law_next : Cal P w K mg base 1 "_law_next" (sp__law_next K) []) : Cal P w K mg base 2 "_law_far" (sp__law_far K) [] := by
  refine calD F m sc__law_far (fun _ _ _ _ _ _ us hl => match us, hl with | [_, _], _ => rfl) len2 (fun cdv A outer s H vs Q E hr h => ⟨_, (pss_cons (ps_if (pt_cmpR op_eq (pe_c c__law_next hr (by decide) rfl (pa_cons (pv 0) (pa_cons pe_int pa_nil))) pe_int (nomark _))
    (pss_one (ps_ret (pv 1)))
    pss_nil)
    (pss_cons (ps_set (i := 2) sc__law_far.nd rfl (Or.inl rfl) (pe_op op_sub (pe_op op_add (pe_op op_pow pe_int pe_int) (pe_c c__law_next hr (by decide) rfl (pa_cons (pv 0) (pa_cons pe_int pa_nil)))) pe_int))
    (pss_cons (ps_set (i := 3) sc__law_far.nd rfl (Or.inl rfl) (pe_tupE (pa_cons pe_str (pa_cons (pe_ix ix_list (pe_lstE (pa_cons pe_int (pa_cons (pe_un un_neg pe_int) pa_nil))) (pe_c c__law_next hr (by decide) rfl (pa_cons (pv 0) (pa_cons pe_int pa_nil))) (fun _ _ => rfl)) (pa_cons (pe_op op_mul (pv 2) (pe_ix ix_list (pe_lstE (pa_cons pe_int (pa_cons (pe_un un_neg pe_int) pa_nil))) (pe_c c__law_next hr (by decide) rfl (pa_cons (pv 0) (pa_cons pe_int pa_nil))) (fun _ _ => rfl))) pa_nil)))))
    (pss_one (ps_ret (pe_tupE (pa_cons pe_str (pa_cons (pe_tupE (pa_cons (pv 1) (pa_cons (pe_tupE (pa_cons pe_str (pa_cons (pe_tupE (pa_cons (pe_tupE (pa_cons (pe_tupE (pa_cons pe_int pa_nil)) (pa_cons (pv 3) pa_nil))) pa_nil)) pa_nil))) (pa_cons (pe_tupE (pa_cons pe_str (pa_cons pe_int (pa_cons (pe_op op_add (pe_op op_pow pe_int pe_int) (pe_c c__law_next hr (by decide) rfl (pa_cons (pv 0) (pa_cons pe_int pa_nil)))) pa_nil)))) pa_nil)))) pa_nil)))))))), ?_⟩)
  obtain ⟨_, v, rfl, S, l, t, rfl, L, tp, ok, h⟩ := h
  -- 0:state 1:value 2:e 3:far
  walk_at "rf"
  refine b_next L (by decide) fun r1 H1 a1 b1 L1 k1 => ?_
  have tp := Tp.tk (keep_tk L.ls k1) _ _ tp
  walk_at "rf"
  refine r_ite (fun c => ?_) (fun c => ?_)
  · walk_at "rf"
    exact h v t H1 (gf_up _ _ (gf_up _ _ ok)) (by omega) tp L1 k1
  walk_at "rf"
  refine b_next L1 (by decide) fun r2 H2 a2 b2 L2 k2 => ?_
  have tp := Tp.tk (keep_tk L1.ls k2) _ _ tp
  have k2 := k1.trans k2
  walk_at "rf"
  refine ⟨by show 2 ≤ sizeLine; decide, fun pM H3 n3 g3 s3 => ?_⟩
  have tp := Tp.tk (Same.tk s3) _ _ tp
  have L3 := L2.same s3
  have k3 := k2.trans (Keep.of s3)
  have pS := L2.ne_free n3
  walk_at "rf"
  refine b_next L3 (by decide) fun r4 H4 a4 b4 L4 k4 => ?_
  have tp := Tp.tk (keep_tk L3.ls k4) _ _ tp
  have g4 := k4 _ _ pS g3
  have k4 := k3.trans k4
  obtain ⟨m, hm, em⟩ := atI_ints (ns := farM) (k := r4) a4 b4
  refine r_ixL (SqL.of g4) em ?_
  walk_at "rf"
  refine ⟨by show 2 ≤ sizeLine; decide, fun pM2 H5 n5 g5 s5 => ?_⟩
  have tp := Tp.tk (Same.tk s5) _ _ tp
  have L5 := L4.same s5
  have k5 := k4.trans (Keep.of s5)
  have pS2 := L4.ne_free n5
  walk_at "rf"
  refine b_next L5 (by decide) fun r6 H6 a6 b6 L6 k6 => ?_
  have tp := Tp.tk (keep_tk L5.ls k6) _ _ tp
  have g6 := k6 _ _ pS2 g5
  have k6 := k5.trans k6
  obtain ⟨sg, hsg, esg⟩ := atI_ints (ns := [1, -1]) (k := r6) a6 b6
  have hsg : sg = 1 ∨ sg = -1 := by simpa using hsg
  refine r_ixL (SqL.of g6) esg ?_
  walk_at "rf"
  refine r_I (.inr ⟨by omega, by omega⟩) ?_
  have hE : (10 : Int) ^ Int.toNat 9 = 1000000000 := by decide
  rw [hE]
  obtain ⟨e, he, he0, he1⟩ : ∃ e : Int, e = (1000000000 + r2 - 2) * sg ∧ -2000000000 ≤ e ∧ e ≤ 2000000000 := ⟨_, rfl, by rcases hsg with q | q <;> rw [q] <;> omega, by rcases hsg with q | q <;> rw [q] <;> omega⟩
  rw [← he]
  have nk1 : Nk m e := ⟨.inr (farM_in m hm).1, (farM_in m hm).2, he0, he1⟩
  walk_at "rf"
  refine ⟨by show 3 ≤ sizeLine; decide, fun p7 H7 n7 g7 s7 => ?_⟩
  walk_at "rf"
  refine ⟨by show 1 ≤ sizeLine; decide, fun p8 H8 n8 g8 s8 => ?_⟩
  walk_at "rf"
  refine ⟨by show 2 ≤ sizeLine; decide, fun p9 H9 n9 g9 s9 => ?_⟩
  walk_at "rf"
  refine ⟨by show 1 ≤ sizeLine; decide, fun p10 H10 n10 g10 s10 => ?_⟩
  walk_at "rf"
  refine ⟨by show 2 ≤ sizeLine; decide, fun p11 H11 n11 g11 s11 => ?_⟩
  walk_at "rf"
  have s711 := (s7.trans s8).trans ((s9.trans s10).trans s11)
  have tf : Tp H7 (.ref p7) (Vl.lf "number" [.int m, .int e]).dat := .tup g7 (.cons (.str _) (.cons (.int _) (.cons (.int _) .nil)))
  have tm : Tp H11 (.ref p11) (Vl.mp [([98], .lf "number" [.int m, .int e])]).dat := .tup g11 (.cons (.str _) (.cons (.tup (s11 _ _ g10) (.cons (.tup ((s10.trans s11) _ _ g9) (.cons (tp_kd (ns := [98]) (((s9.trans s10).trans s11) _ _ g8)) (.cons (Tp.tk (Same.tk ((s8.trans (s9.trans s10)).trans s11)) _ _ tf) .nil))) .nil)) .nil))
  have L11 := L6.same s711
  have k11 := k6.trans (Keep.of s711)
  have tp := Tp.tk (Same.tk s711) _ _ tp
  refine b_next L11 (by decide) fun r12 H12 a12 b12 L12 k12 => ?_
  have tp := Tp.tk (keep_tk L11.ls k12) _ _ tp
  have tm := Tp.tk (keep_tk L11.ls k12) _ _ tm
  have k12 := k11.trans k12
  walk_at "rf"
  refine ⟨by show 3 ≤ sizeLine; decide, fun p13 H13 n13 g13 s13 => ?_⟩
  rw [hE] at g13
  walk_at "rf"
  refine ⟨by show 3 ≤ sizeLine; decide, fun p14 H14 n14 g14 s14 => ?_⟩
  walk_at "rf"
  refine ⟨by show 2 ≤ sizeLine; decide, fun p15 H15 n15 g15 s15 => ?_⟩
  have sa := (s13.trans s14).trans s15
  obtain ⟨q1, q2⟩ := far_gf (e2 := 1000000000 + r12) ok nk1 ⟨.inr (by decide), Nat.lt_of_lt_of_le (by decide : _ < 10 ^ 1) (pow10_le (by decide)), by omega, by omega⟩
  refine h (.ref p15) _ H15 q1 q2 ?_ (L12.same sa) (k12.trans (Keep.of sa))
  exact .tup g15 (.cons (.str _) (.cons (.tup (s15 _ _ g14) (.cons (Tp.tk (Same.tk sa) _ _ tp) (.cons (Tp.tk (Same.tk sa) _ _ tm) (.cons (.tup ((s14.trans s15) _ _ g13) (.cons (.str _) (.cons (.int _) (.cons (.int _) .nil)))) .nil)))) .nil))
end

/-! ### the parts of a value; a walk through it -/


mutual
/-- no list or map of it is too wide, its leaves are neither -/
def Vl.wd : Vl → Prop
  | .lf k _ => k ≠ "list" ∧ k ≠ "map"
  | .ls xs => xs.length ≤ 1000 ∧ wdL xs
  | .mp es => es.length ≤ 1000 ∧ wdM es
def wdL : List Vl → Prop
  | [] => True
  | x :: xs => x.wd ∧ wdL xs
def wdM : List (List Int × Vl) → Prop
  | [] => True
  | (_, v) :: es => v.wd ∧ wdM es
end
theorem wdL_mem : ∀ {xs : List Vl}, wdL xs → ∀ x ∈ xs, x.wd
  | [], _, x, h => absurd h (by simp)
  | y :: ys, h, x, hx => by
    rcases List.mem_cons.mp hx with e | e
    · rw [e]
      exact h.1
    · exact wdL_mem h.2 x e
theorem wdM_mem : ∀ {es : List (List Int × Vl)}, wdM es → ∀ e ∈ es, e.2.wd
  | [], _, x, h => absurd h (by simp)
  | (k, v) :: ys, h, x, hx => by
    rcases List.mem_cons.mp hx with e | e
    · rw [e]
      exact h.1
    · exact wdM_mem h.2 x e
/-- the values in a value, one level down -/
def kidsV : Vl → List Vl
  | .lf _ _ => []
  | .ls xs => xs
  | .mp es => es.map (·.2)
mutual
/-- all values in it, in preorder -/
def preV : Vl → List Vl
  | .lf k r => [.lf k r]
  | .ls xs => .ls xs :: preL xs
  | .mp es => .mp es :: preM es
def preL : List Vl → List Vl
  | [] => []
  | x :: xs => preV x ++ preL xs
def preM : List (List Int × Vl) → List Vl
  | [] => []
  | (_, v) :: es => preV v ++ preM es
end
theorem preL_eq : ∀ xs : List Vl, preL xs = xs.flatMap preV
  | [] => rfl
  | x :: xs => by
    show preV x ++ preL xs = _
    rw [preL_eq xs]
    rfl
theorem preM_eq : ∀ es : List (List Int × Vl), preM es = (es.map (·.2)).flatMap preV
  | [] => rfl
  | (k, v) :: es => by
    show preV v ++ preM es = _
    rw [preM_eq es]
    rfl
theorem preV_eq (d : Vl) : preV d = d :: (kidsV d).flatMap preV := by
  cases d with
  | lf k r => rfl
  | ls xs =>
    show Vl.ls xs :: preL xs = _
    rw [preL_eq]
    rfl
  | mp es =>
    show Vl.mp es :: preM es = _
    rw [preM_eq]
    rfl
/-- where a value stands -/
def TpV (H : Hp) (v : V) (d : Vl) : Prop := Tp H v d.dat ∧ d.wd
theorem TpV.tk {H H' : Hp} (k : Tk H H') {v : V} {d : Vl} (h : TpV H v d) : TpV H' v d := ⟨Tp.tk k _ _ h.1, h.2⟩
theorem tk_tups {H : Hp} : Tk H (tupsOf H) := fun _ _ h => tupsOf_tup h
theorem tups_tk {H : Hp} : Tk (tupsOf H) H := fun _ _ h => by
  obtain ⟨ys, e, h2⟩ := tupsOf_at h
  cases e
  exact h2
theorem tpV_all {H : Hp} : ∀ {xs : List V} {ds : List Vl}, TpAll H xs (datL ds) → wdL ds → Paired (TpV H) xs ds
  | _, [], h, _ => by cases h; exact .nil
  | _, d :: ds, h, w => by
    cases h with
    | cons h1 h2 => exact .cons ⟨h1, w.1⟩ (tpV_all h2 w.2)
def sp_parts (K : Frg) : Sp := sp1 fun a H Q _ => ∃ (d : Vl) (Dh : Hp), Tk Dh H ∧ TpV Dh a d ∧ ∀ (p : Addr) (xs : List V) (H' : Hp), H' p = some (.tup xs) → Paired (TpV Dh) xs (kidsV d) → Same H H' → Q (.ref p) H'
section
variable {P : Program} {w : World} {K : PySem.W.Frag} {mg : Str → Option Value} {base : Heap} {f : Addr} {fd : FuncData}
theorem ok_parts (F : FunD K "parts" "parts" (defArgs s_parts) (defBody s_parts) (defScope s_parts) [] [] (glAd "parts" K) fd) (m : mg "parts" = some (.ref (glAd "parts" K))) (nb : Nm w K mg) : Cal P w K mg base 1 "parts" (sp_parts K) [] := by
  refine calD F m sc_parts (fun _ _ _ _ _ _ us hl => match us, hl with | [_], _ => rfl) len1 (fun cdv A outer s H vs Q E hr h => ⟨_, (pss_cons (ps_if (pt_cmpR op_eq (pe_ix ix_tup (pv 0) pe_int (fun _ _ => rfl)) pe_str (nomark _))
    (pss_one (ps_ret (pe_ix ix_tup (pv 0) pe_int (fun _ _ => rfl))))
    pss_nil)
    (pss_cons (ps_if (pt_cmpR op_eq (pe_ix ix_tup (pv 0) pe_int (fun _ _ => rfl)) pe_str (nomark _))
    (pss_one (ps_ret (pe_callTy call_tuple_ofE (by rfl) nb.tuple (by decide +kernel) (pa_cons (pe_lc (own := [("entry", 1)]) (g := gName 1) (tt := tYes) rfl sc_parts.nd (pi_tup (pe_ix ix_tup (pv 0) pe_int (fun _ _ => rfl))) (blkOk_by (N := ["value", "entry"]) (sc := defScope s_parts) (by decide +kernel)) (fun _ _ _ _ _ => pg_name (i := 1) sc_parts.nd rfl (Or.inl rfl)) (fun _ _ _ _ _ => pts_nil) (fun _ _ _ _ _ => (pe_ix (show IxR _ (rIx K) from ix_seq) (pv 1) pe_int (fun _ _ => rfl)))) pa_nil))))
    pss_nil)
    (pss_one (ps_ret (pe_tupE pa_nil))))), ?_⟩)
  obtain ⟨_, rfl, d, Dh, kD, ⟨t, wd⟩, h⟩ := h
  cases d with
  | lf k r =>
    obtain ⟨a, us, rfl, ha, hu⟩ := tp_tup t
    have ha := kD _ _ ha
    cases hu with
    | cons r1 r2 =>
    cases r1
    walk_at "rf"
    refine r_ixT (SqT.of ha) (atI_nat (j := 0) rfl) ?_
    walk_at "rf"
    refine r_iteN wd.1 ?_
    walk_at "rf"
    refine r_ixT (SqT.of ha) (atI_nat (j := 0) rfl) ?_
    walk_at "rf"
    refine r_iteN wd.2 ?_
    walk_at "rf"
    refine ⟨by show 0 ≤ sizeLine; decide, fun q H1 nq g1 s1 => ?_⟩
    exact h q [] H1 g1 .nil s1
  | ls xs =>
    obtain ⟨a, us, rfl, ha, hu⟩ := tp_tup t
    have ha := kD _ _ ha
    cases hu with
    | cons r1 r2 =>
    cases r1
    cases r2 with
    | cons r2 r3 =>
    cases r3
    obtain ⟨b, vs, rfl, hb, hv⟩ := tp_tup r2
    have hb := kD _ _ hb
    walk_at "rf"
    refine r_ixT (SqT.of ha) rfl ?_
    walk_at "rf"
    refine r_itep (show ("list" : Str) = "list" from rfl) ?_
    walk_at "rf"
    refine r_ixT (SqT.of ha) rfl ?_
    exact h b vs H hb (tpV_all hv wd.2) (Same.refl H)
  | mp es =>
    obtain ⟨a, us, rfl, ha, hu⟩ := tp_tup t
    have ha := kD _ _ ha
    cases hu with
    | cons r1 r2 =>
    cases r1
    cases r2 with
    | cons r2 r3 =>
    cases r3
    obtain ⟨b, vs, rfl, hb, hv⟩ := tp_tup r2
    have hb := kD _ _ hb
    walk_at "rf"
    refine r_ixT (SqT.of ha) rfl ?_
    walk_at "rf"
    refine r_iteN (show ¬ ("map" : Str) = "list" by decide +kernel) ?_
    walk_at "rf"
    refine r_ixT (SqT.of ha) rfl ?_
    walk_at "rf"
    refine r_itep (show ("map" : Str) = "map" from rfl) ?_
    walk_at "rf"
    refine r_ixT (SqT.of ha) rfl ?_
    have hvl : vs.length = es.length := by rw [tpAll_len hv, datM_map, List.length_map]
    have wl : es.length ≤ 1000 := wd.1
    refine ⟨b, rfl, ⟨vs, SqT.of hb⟩, fun D nD => ?_⟩
    refine lc_tup (xs := vs) (fun i H' => ∃ ws, Same H H' ∧ H' D = some (.lst ws) ∧ Paired (TpV Dh) ws ((es.take i).map (·.2))) ⟨[], same_upd nD _, upd_same, .nil⟩ (fun i H' _ q => by obtain ⟨_, q1, _⟩ := q; exact SqT.of (q1 _ _ hb)) ?_ ?_
    · rintro i x H' hx ⟨ws, s1, hD, tv⟩
      obtain ⟨d, hd, t2⟩ := tpAll_get hv hx
      rw [datM_map, List.getElem?_map] at hd
      cases he : es[i]? with
      | none => rw [he] at hd; cases hd
      | some en =>
        rw [he] at hd
        cases hd
        obtain ⟨e, zs, rfl, he2, re⟩ := tp_tup t2
        have he2 := kD _ _ he2
        cases re with
        | cons q1 re =>
        cases re with
        | cons q2 re =>
        cases re
        have hi : i < es.length := (List.getElem?_eq_some_iff.mp he).1
        have hwl := Paired.length tv
        rw [List.length_map, List.length_take] at hwl
        walk_at "rf"
        refine ⟨rfl, ?_⟩
        walk_at "rf"
        refine .inr (.inl (r_ixT (SqT.of (s1 _ _ he2)) (atI_nat (j := 1) rfl) ?_))
        refine ⟨_, hD, small4k (by omega), ws ++ [_], ?_, upd_same, ?_⟩
        · intro b o hb
          rw [upd_ne (ne_of_none hb nD)]
          exact s1 _ _ hb
        · rw [List.take_add_one, he, List.map_append]
          exact paired_app tv (.cons ⟨q2, wdM_mem wd.2 en (List.mem_of_getElem? he)⟩ .nil)
    · rintro H' ⟨ws, s1, hD, tv⟩
      rw [hvl, List.take_length] at tv
      walk_at "rf"
      refine ⟨D, ws, rfl, .inl ⟨SqL.of hD, fun p H2 np g2 s2 => ?_⟩⟩
      exact h p ws H2 g2 tv (s1.trans s2)
end
set_option maxHeartbeats 8000000 in
theorem extend_tup (l : Addr) (items : Array Value) (n : Nat) (b : Addr) (ob : Obj) (items2 : Array Value) (n2 : Nat) (hcb : ob.cls = .type "tuple") (hdb : ob.data = .seq items2 n2) (hs0 : ¬(!items.isEmpty && Builtin.List.listTooLong (items.size + items2.size)) = true) (hs1 : items.size ≤ sizeLine) (hs2 : items.size + items2.size ≤ sizeLine + 1) :
    Meets (Builtin.«list.extend» ⟨[.ref l, .ref b], []⟩) (fun _ R s => s.heap.get? l = some { cls := .type "list", dict := none, data := .seq items n, slots := #[] } ∧ s.heap.get? b = some ob ∧ R (.ok (.ret Value.none)) { s with heap := s.heap.update l (Obj.mapSeq fun x => x ++ items2), toks := s.toks }) :=
  .of_wp fun prog w A R s h => by
    obtain ⟨hp, g, d, tk, os⟩ := s
    obtain ⟨oc, od, odt, osl⟩ := ob
    cases hcb
    cases hdb
    obtain ⟨hl, hb, h⟩ := h
    have f1 := AutoSeq1.idx_int
    have f2 := AutoSeq1.sub_tuple_tuple
    have f3 := AutoSeq1.sub_list_list
    have f4 := AutoSeq1.sub_tuple_list
    have f5 := AutoSeq1.sub_list_tuple
    have hz' : (items ++ items2).size ≤ sizeLine + 1 := by rw [Array.size_append]; exact hs2
    wp_walk using (wpAny_updateSeq hl rfl (hz := hs1) (_hz' := hz')), AutoSeq1.wpAny_loadPart' hl, AutoSeq1.wpAny_loadPart' hb
    exact ⟨_, rfl, h⟩
/-- list.extend by a tuple -/
def rExtendT (K : Frg) : V → List V → Hp → VK → Prop := fun x vs H Q => ∃ l b xs zs, x = .ref l ∧ vs = [.ref b] ∧ H l = some (.lst xs) ∧ SqT K H b zs ∧ xs.length + zs.length ≤ sizeLine ∧ Q .non (upd H l (.lst (xs ++ zs)))
theorem mt_extendT {X : Cx} : MtM X "list.extend" (rExtendT X.K) := by
  intro pins s σ H x vs v us Q I rx rv h
  obtain ⟨l, b, xs, zs, rfl, rfl, hH, hB, hz, q⟩ := h
  cases rx
  obtain ⟨u, rfl, ru⟩ := rv.one
  cases ru
  obtain ⟨z, its, n, r, hl, e⟩ := I.lstM hH
  obtain ⟨its2, r2, ⟨ob, eb, cb, n2, db⟩, z2⟩ := I.tuple hB
  have l2 := r2.length
  have hsz : its.toArray.size + its2.toArray.size ≤ sizeLine := by rw [List.size_toArray, List.size_toArray]; omega
  have hlong : ¬ (!its.toArray.isEmpty && Builtin.List.listTooLong (its.toArray.size + its2.toArray.size)) = true := by rw [notLongL hsz, Bool.and_false]; exact Bool.false_ne_true
  refine call_meets F.slot_list_extend ⟨_, e, rfl⟩ F.entry_list_extend (F.args_list_extend_2 _ _) (extend_tup l its.toArray n b ob its2.toArray n2 cb db hlong (by rw [List.size_toArray]; omega) (by omega)) ⟨e, eb, ?_⟩
  refine ⟨.non, _, I.lset (its' := its ++ its2) hH e (by simp) (r.append r2) ?_, rfl, q⟩
  rw [List.length_append]
  omega
/-- for .. in enumerate(walk(..)) may be read so -/
structure Wlk (P : Program) (w : World) (K : PySem.W.Frag) (mg : Str → Option Value) (base : Heap) (k : Nat) (x : Str) : Prop where
  run : ∀ {X : Cx} {j kk : Nat} {e : Expr} {te : TE} {g : TG} {tb : TS} {bd : List Stmt} {elts : List Expr} {p1 p2 p3 p4 pos tpos : Pos}, X.prog = P → X.w = w → X.K = K → X.mg = mg → X.base = base → (∀ y z, ¬ X.xe y z) → X.calm = true → Room j X.A → k ≤ j → Gl X "enumerate" → mg "enumerate" = none → Gl X x →
    PE X e te → PG X (.Tuple elts kk tpos) g → PSs X bd tb → starEach [e] X.env = (false, eval e X.env) :: starEach [] X.env → starEach [.Call (.Name x p2) [e] [] p3] X.env = (false, eval (.Call (.Name x p2) [e] [] p3) X.env) :: starEach [] X.env →
    (∀ y, foldedSetIterable (.Call (.Name "enumerate" p1) [.Call (.Name x p2) [e] [] p3] [] p4) X.env y = pure y) → PS X (.For (.Tuple elts kk tpos) (.Call (.Name "enumerate" p1) [.Call (.Name x p2) [e] [] p3] [] p4) bd [] pos) (tForW TpV preV te g tb)
theorem ps_wlk {X : Cx} {j k kk : Nat} {x : Str} {e : Expr} {te : TE} {g : TG} {tb : TS} {bd : List Stmt} {elts : List Expr} {p1 p2 p3 p4 pos tpos : Pos} (c : Wlk X.prog X.w X.K X.mg X.base k x) (hr : Room j X.A) (hk : k ≤ j) (hme : X.mg "enumerate" = none) (he : PE X e te) (hg : PG X (.Tuple elts kk tpos) g) (hb : PSs X bd tb)
    (hX : ∀ y z, ¬ X.xe y z := by exact fun _ _ h => h) (hc : X.calm = true := by rfl) (hge : Gl X "enumerate" := by rfl) (hgw : Gl X x := by rfl) (h1 : starEach [e] X.env = (false, eval e X.env) :: starEach [] X.env := by rfl)
    (h2 : starEach [.Call (.Name x p2) [e] [] p3] X.env = (false, eval (.Call (.Name x p2) [e] [] p3) X.env) :: starEach [] X.env := by rfl) (h3 : ∀ y, foldedSetIterable (.Call (.Name "enumerate" p1) [.Call (.Name x p2) [e] [] p3] [] p4) X.env y = pure y := by intro _; rfl) :
    PS X (.For (.Tuple elts kk tpos) (.Call (.Name "enumerate" p1) [.Call (.Name x p2) [e] [] p3] [] p4) bd [] pos) (tForW TpV preV te g tb) :=
  c.run rfl rfl rfl rfl rfl hX hc hr hk hge hme hgw he hg hb h1 h2 h3
theorem run_ps {X : Cx} {st : Stmt} {t : TS} (h : PS X st t) {pins : List (Addr × Obj)} {σ : St} {H : Hp} {s : Shared} (I : Inv X pins σ H s) {N : St → Hp → Prop} {Q : Flow → Shared → Prop} (ht : t { nx := N, rt := fun _ _ => False } σ H) (hx : ∀ y z, ¬ X.xe y z)
    (hQ : ∀ σ' H' s', Inv X pins σ' H' s' → N σ' H' → Q .next s') : wpAny (model X.prog X.w) X.A (exec st X.env) Q (fun _ _ => False) s := by
  refine wpAny_mono (h.run pins s σ H _ I ht) (fun fl s' q => ?_) fun y s' q => (hx y s' q).elim
  cases fl with
  | next => obtain ⟨σ', H', I', n⟩ := q; exact hQ σ' H' s' I' n
  | brk => obtain ⟨_, _, _, q⟩ := q; exact q.elim
  | cont => obtain ⟨_, _, _, q⟩ := q; exact q.elim
  | ret u => obtain ⟨_, _, _, _, _, q⟩ := q; exact q.elim
theorem run_pt {X : Cx} {e : Expr} {t : TT} (h : PT X e t) {pins : List (Addr × Obj)} {σ : St} {H : Hp} {s : Shared} (I : Inv X pins σ H s) {N : Bool → Hp → Prop} {Q : Bool → Shared → Prop} (ht : t σ H N) (hx : ∀ y z, ¬ X.xe y z)
    (hQ : ∀ b H' s', Inv X pins σ H' s' → N b H' → Q b s') : wpAny (model X.prog X.w) X.A (isTrue e X.env (eval e X.env)) Q (fun _ _ => False) s :=
  wpAny_mono (h.run pins s σ H _ I ht) (fun b s' ⟨H', I', n⟩ => hQ b H' s' I' n) fun y s' q => (hx y s' q).elim
theorem run_pe {X : Cx} {e : Expr} {t : TE} (h : PE X e t) {pins : List (Addr × Obj)} {σ : St} {H : Hp} {s : Shared} (I : Inv X pins σ H s) {N : V → Hp → Prop} {Q : Value → Shared → Prop} (ht : t σ H N) (hx : ∀ y z, ¬ X.xe y z)
    (hQ : ∀ x u H' s', Inv X pins σ H' s' → RelV x u → N x H' → Q u s') : wpAny (model X.prog X.w) X.A (eval e X.env) Q (fun _ _ => False) s :=
  wpAny_mono (h.run pins s σ H _ I ht) (fun u s' ⟨x, H', I', r, n⟩ => hQ x u H' s' I' r n) fun y s' q => (hx y s' q).elim
section
variable {P : Program} {w : World} {K : PySem.W.Frag} {mg : Str → Option Value} {base : Heap} {f : Addr} {fd : FuncData}
theorem ok_walk (F : FunD K "walk" "walk" (defArgs s_walk) (defBody s_walk) (defScope s_walk) [] [] (glAd "walk" K) fd) (m : mg "walk" = some (.ref (glAd "walk" K))) (nb : Nm w K mg) (c_parts : Cal P w K mg base 1 "parts" (sp_parts K) []) : Wlk P w K mg base 4 "walk" := by
  refine ⟨fun {X j kk e te g tb bd elts p1 p2 p3 p4 pos tpos} eP ew eK em eb hX hc hr hk hge hme hgw he hg hb h1 h2 h3 => ?_⟩
  subst eP ew eK em eb
  refine ps_walk (T := TpV) (kids := kidsV) (pre := preV) (N := ["value", "waiting", "found"]) (ps := ["value"]) (k := 3) hX hc (hr.mono hk) hge hme hgw F m sc_walk (fun n => rfl) (fun _ _ _ _ _ _ us hl => match us, hl with | [_], _ => rfl) rfl rfl (fun _ => rfl) (fun H v d h => TpV.tk tk_tups h) (fun H v d h => TpV.tk tups_tk h) preV_eq (fun _ _ => rfl) (fun s H cd v => ?_) he hg hb rfl h1 h2 h3
  have hx : ∀ (G : GP) (s0 : Shared) y z, ¬ (G.cx s0).xe y z := fun _ _ _ _ h => h
  have hr1 : ∀ env, Room 1 ((X.A.in1.in1).deeper env) := fun env => ((hr.mono hk).in1.in1.mono (Nat.le_refl 2)).deeper env
  constructor
  · intro s0 pins H0 s1 I
    refine run_ps (ps_set (i := 1) sc_walk.nd rfl (Or.inl rfl) (pe_lstN (pa_cons (pv 0) pa_nil))) I (N := fun σ' H' => ∃ l, s.heap.objs.size ≤ l ∧ H0 l = none ∧ σ' = [some v, some (.ref l), none] ∧ H' = upd H0 l (.lst [v])) ?_ (hx _ _) fun σ' H' s' I' ⟨l, q1, q2, q3, q4⟩ => ?_
    · refine r_asg ?_
      walk_at "rf"
      refine ⟨by show 1 ≤ sizeLine; decide, fun l nl hl => ?_⟩
      exact ⟨l, Nat.le_of_lt hl, nl, rfl, rfl⟩
    · subst q3 q4
      exact ⟨rfl, l, q1, q2, I'⟩
  · intro s0 pins l y ws H0 s1 I hl
    refine run_pt (pt_truth (pv 1) (by intro _; rfl)) I (N := fun b H' => b = !ws.isEmpty ∧ H' = H0) ?_ (hx _ _) fun b H' s' I' ⟨q1, q2⟩ => ?_
    · walk_at "rf"
      exact ⟨_, .inl ⟨ws, SqL.of hl, rfl⟩, rfl, rfl⟩
    · subst q2
      exact ⟨q1, I'⟩
  · intro s0 pins l y ws x H0 s1 I hl
    refine run_ps (ps_set (i := 2) sc_walk.nd rfl (Or.inl rfl) (pe_bm0 PySem.F.plainAttrs_list PySem.F.slot_list_pop PySem.F.type_list_pop mt_pop (pv 1))) I (N := fun σ' H' => σ' = [some v, some (.ref l), some x] ∧ H' = upd H0 l (.lst ws)) ?_ (hx _ _) fun σ' H' s' I' ⟨q3, q4⟩ => ?_
    · refine r_asg ?_
      walk_at "rf"
      refine ⟨tyL hl, l, ws ++ [x], x, rfl, rfl, hl, by simp, ?_⟩
      show _ ∧ _
      refine ⟨rfl, ?_⟩
      rw [List.dropLast_concat]
    · subst q3 q4
      exact ⟨rfl, I'⟩
  · intro s0 pins l x H0 s1 I
    refine run_pe (pv 2) I (N := fun u H' => u = x ∧ H' = H0) ?_ (hx _ _) fun u u' H' s' I' r ⟨q1, q2⟩ => ?_
    · exact ⟨x, rfl, rfl, rfl⟩
    · subst q1 q2
      exact ⟨r, I'⟩
  · intro s0 pins l x d ws H0 s1 I hl tx sub hz
    refine run_ps (ps_expr (pe_bm PySem.F.plainAttrs_list PySem.F.slot_list_extend PySem.F.type_list_extend (mt_extendT (X := ((gpOf X ["value", "waiting", "found"] "walk" (defScope s_walk) (glAd "walk" X.K) cd H s).cx s0))) (pv 1) (pa_cons (pe_revT (pe_c (X := ((gpOf X ["value", "waiting", "found"] "walk" (defScope s_walk) (glAd "walk" X.K) cd H s).cx s0)) c_parts (hr1 _) (by decide) rfl (pa_cons (pv 2) pa_nil))) pa_nil))) I (N := fun σ' H' => ∃ ys, Paired (TpV (tupsOf H)) ys (kidsV d) ∧ σ' = [some v, some (.ref l), some x] ∧ H' l = some (.lst (ws ++ ys.reverse))) ?_ (hx _ _) fun σ' H' s' I' ⟨ys, q1, q3, q4⟩ => ?_
    · walk_at "rf"
      refine ⟨tyL hl, ?_⟩
      walk_at "rf"
      refine ⟨x, rfl, x, rfl, d, tupsOf H, fun b xs q => sub b xs q, tx, fun p xs H2 g2 pa s2 => ?_⟩
      refine ⟨p, xs, rfl, SqT.of g2, fun p3 n3 => ?_⟩
      have hn : l ≠ p3 := fun z => by rw [← z, s2 _ _ hl] at n3; cases n3
      refine ⟨l, p3, ws, xs.reverse, rfl, rfl, ?_, SqT.of upd_same, ?_, ?_⟩
      · rw [upd_ne hn]
        exact s2 _ _ hl
      · rw [List.length_reverse, Paired.length pa]
        exact hz
      · exact ⟨xs, pa, rfl, upd_same⟩
    · subst q3
      exact ⟨rfl, H', ys, q1, I', q4⟩
end

/-! ### over a list or a tuple of numbers -/
theorem r_eachRow {σ : St} {H : Hp} {n : St → Hp → Prop} {r : VK} {K : PySem.W.Frag} {k : Nat} {g : TG} {tb : TS} {a : Addr} {zs : List Int} (e : σ[k]? = some (some (.ref a))) (hR : RowAt H a zs) (Pv : Nat → St → Hp → Prop) (h0 : Pv 0 σ H) (hl : ∀ i σ H', Pv i σ H' → ∀ u, H a = some u → H' a = some u)
    (hs : ∀ (i : Nat) (z : Int) σ H', zs[i]? = some z → Pv i σ H' → g (.int z) σ H' fun σ2 H2 => tb ⟨Pv (i + 1), r, n, Pv (i + 1)⟩ σ2 H2) (hd : ∀ σ H', Pv zs.length σ H' → n σ H') :
    (iList K (tVar k) σ H fun J H1 => ∃ W : Nat → Nat → St → Hp → Prop, (∃ m, W 0 m σ H1) ∧ ∀ i m σ H, W i m σ H →
    (J.stop i H ∧ n σ H) ∨ (J.go i H ∧ ∃ N : St → Hp → Prop, (∀ σ' H', N σ' H' → ∃ m', m' < m ∧ W (i + 1) m' σ' H') ∧ ∀ x H', J.yld i H x H' → g x σ H' fun σ2 H2 => tb ⟨N, r, n, N⟩ σ2 H2)) ∨
    (iTup K (tVar k) σ H fun J H1 => ∃ W : Nat → Nat → St → Hp → Prop, (∃ m, W 0 m σ H1) ∧ ∀ i m σ H, W i m σ H →
    (J.stop i H ∧ n σ H) ∨ (J.go i H ∧ ∃ N : St → Hp → Prop, (∀ σ' H', N σ' H' → ∃ m', m' < m ∧ W (i + 1) m' σ' H') ∧ ∀ x H', J.yld i H x H' → g x σ H' fun σ2 H2 => tb ⟨N, r, n, N⟩ σ2 H2)) := by
  have st : ∀ (i : Nat) (x : V) σ H', (zs.map V.int)[i]? = some x → Pv i σ H' → g x σ H' fun σ2 H2 => tb ⟨Pv (i + 1), r, n, Pv (i + 1)⟩ σ2 H2 := fun i x σ H' e p => by
    obtain ⟨c, h1, rfl, _⟩ := ints_get e
    exact hs i c σ H' h1 p
  rcases hR with q | q
  · have hd' : ∀ σ H', Pv (zs.map V.int).length σ H' → n σ H' := by
      rw [List.length_map]
      exact hd
    exact .inl (r_itL ⟨_, e, a, rfl, ⟨_, SqL.of q⟩, r_eachL Pv h0 (fun i σ H' p => SqL.of (hl i σ H' p _ q)) st hd'⟩)
  · have hd' : ∀ σ H', Pv (zs.map V.int).length σ H' → n σ H' := by
      rw [List.length_map]
      exact hd
    exact .inr (r_itT ⟨_, e, a, rfl, ⟨_, SqT.of q⟩, r_eachT Pv h0 (fun i σ H' p => SqT.of (hl i σ H' p _ q)) st hd'⟩)

def sp__encode_long (K : Frg) : Sp := sp1 fun p H Q _ => ∃ c, p = .int c ∧ 128 ≤ c ∧ c ≤ 1114111 ∧ ∀ l H', H l = none → H' l = some (.lst ((enc1 c).map V.int)) → Same H H' → Q (.ref l) H'
def sp_encode (K : Frg) : Sp := sp1 fun p H Q _ => ∃ a cs, p = .ref a ∧ RowAt H a cs ∧ (∀ c ∈ cs, Point c) ∧ 4 * cs.length < sizeLine ∧ ∀ l H', H l = none → H' l = some (.lst ((encs cs).map V.int)) → Same H H' → Q (.ref l) H'


section
variable {P : Program} {w : World} {K : PySem.W.Frag} {mg : Str → Option Value} {base : Heap} {f : Addr} {fd : FuncData}
theorem ok__encode_long (F : FunD K "_encode_long" "_encode_long" (defArgs s__encode_long) (defBody s__encode_long) (defScope s__encode_long) [] [] (glAd "_encode_long" K) fd) (m : mg "_encode_long" = some (.ref (glAd "_encode_long" K))) (nb : Nm w K mg) : Cal P w K mg base 1 "_encode_long" (sp__encode_long K) [] := by
  obtain ⟨v_MARKS, u_MARKS, e_MARKS, r_MARKS, k_MARKS⟩ := nb.g_MARKS
  refine calD F m sc__encode_long (fun _ _ _ _ _ _ us hl => match us, hl with | [_], _ => rfl) len1 (fun cdv A outer s H vs Q E hr h => ⟨_, (pss_cons (ps_set (i := 1) sc__encode_long.nd rfl (Or.inl rfl) (pe_ifExp (pt_cmpR op_lt (pv 0) pe_int (nomark _)) pe_int (pe_ifExp (pt_cmpR op_lt (pv 0) pe_int (nomark _)) pe_int pe_int)))
    (pss_cons (ps_set (i := 2) sc__encode_long.nd rfl (Or.inl rfl) (pe_lst (pa_cons (pe_op op_add (pe_ix ix_tup (pe_gc rfl ⟨u_MARKS, e_MARKS, r_MARKS⟩) (pv 1) (fun _ _ => rfl)) (pe_op op_shr (pv 0) (pe_op op_mul pe_int (pv 1)))) pa_nil)))
    (pss_cons (ps_for PassesOwn.never rfl (pi_range3 rfl nb.range (pa_cons (pe_op op_sub (pe_op op_mul pe_int (pv 1)) pe_int) (pa_cons (pe_un un_neg pe_int) (pa_cons (pe_un un_neg pe_int) pa_nil)))) (pg_name (i := 3) sc__encode_long.nd rfl (Or.inl rfl))
    (pss_one (ps_expr (pe_bm PySem.F.plainAttrs_list PySem.F.slot_list_append PySem.F.type_list_append mt_append (pv 2) (pa_cons (pe_op op_add pe_int (pe_op op_mod (pe_op op_shr (pv 0) (pv 3)) pe_int)) pa_nil)))))
    (pss_one (ps_ret (pv 2)))))), ?_⟩)
  obtain ⟨_, rfl, c, rfl, c0, c1, h⟩ := h
  obtain ⟨tm, ys, rfl, hM, hE⟩ := dp_tup (k_MARKS H)
  have hE : ys = [0, 192, 224, 240].map V.int := dp_ints _ hE
  subst hE
  walk_at "rd"
  refine r_iteJ (.int (mm8 c)) ?_ ?_ ?_
  · intro c2 R hR
    unfold mm8 at hR
    rw [if_pos c2] at hR
    exact hR
  · intro c2 R hR
    unfold mm8 at hR
    rw [if_neg c2] at hR
    walk_at "rd"
    refine r_ite (fun c3 => ?_) (fun c3 => ?_)
    · rw [if_pos c3] at hR
      exact hR
    · rw [if_neg c3] at hR
      exact hR
  walk_at "rd"
  refine r_ixT hM (mark8_at (mm8 c) (mm8_is c)) ?_
  have hm := mm8_is c
  walk_at "rd"
  refine r_I (by omega) ?_
  walk_at "rd"
  refine ⟨by show 1 ≤ sizeLine; decide, fun l hl => ?_⟩
  have hL : upd H l (.lst [.int (mark8 (mm8 c) + c / 2 ^ (6 * mm8 c).toNat)]) l = some (.lst (((enc1 c).take 1).map V.int)) := by
    rw [upd_same, ← long_zero c0]
    rfl
  have hS := same_upd hl (.lst [.int (mark8 (mm8 c) + c / 2 ^ (6 * mm8 c).toNat)])
  generalize upd H l (.lst [.int (mark8 (mm8 c) + c / 2 ^ (6 * mm8 c).toNat)]) = H0 at hL hS ⊢
  walk_at "rd"
  refine ⟨_, _, _, (mm8 c).toNat, rfl, r_eachR (mm8 c).toNat (by rcases hm with e | e | e <;> rw [e] <;> exact ⟨by decide, by decide, by decide, by decide⟩)
    (fun i σ H' => ∃ y, σ = [some (.int c), some (.int (mm8 c)), some (.ref l), y] ∧ H' l = some (.lst (((enc1 c).take (i + 1)).map V.int)) ∧ Same H H') ⟨_, rfl, hL, hS⟩ ?_ ?_⟩
  · rintro i σ H1 hi ⟨y, rfl, g1, g2⟩
    walk_at "rd"
    refine ⟨tyL g1, ?_⟩
    walk_at "rd"
    refine r_I (by show 0 ≤ 6 * mm8 c - 6 + (i : Int) * (-6); rcases hm with e | e | e <;> rw [e] at hi ⊢ <;> (have : (i : Nat) < _ := hi; omega)) ?_
    walk_at "rd"
    refine r_appK g1 ?_ fun H5 hL5 f5 => ?_
    · refine Nat.lt_of_le_of_lt (m := 4) ?_ (by decide)
      rw [List.length_map]
      exact Nat.le_trans (List.length_take_le' _ _) (len_enc1 c).2
    · refine ⟨_, rfl, ?_, fun b u z => ?_⟩
      · rw [hL5, map_snoc, long_step c0 hi]
      · by_cases e : b = l
        · rw [e, hl] at z
          cases z
        · rw [f5 b e]
          exact g2 b u z
  · rintro σ H1 ⟨y, rfl, g1, g2⟩
    rw [long_all c0] at g1
    walk_at "rd"
    exact h l H1 hl g1 g2
theorem ok_encode (F : FunD K "encode" "encode" (defArgs s_encode) (defBody s_encode) (defScope s_encode) [] [] (glAd "encode" K) fd) (m : mg "encode" = some (.ref (glAd "encode" K))) (nb : Nm w K mg) (c__encode_long : Cal P w K mg base 1 "_encode_long" (sp__encode_long K) []) : Cal P w K mg base 2 "encode" (sp_encode K) [] := by
  refine calD F m sc_encode (fun _ _ _ _ _ _ us hl => match us, hl with | [_], _ => rfl) len1 (fun cdv A outer s H vs Q E hr h => ⟨_, (pss_cons (ps_set (i := 1) sc_encode.nd rfl (Or.inl rfl) (pe_lst pa_nil))
    (pss_cons (ps_for PassesOwn.never rfl (pi_or (pi_list (pv 0)) (pi_tup (pv 0))) (pg_name (i := 2) sc_encode.nd rfl (Or.inl rfl))
    (pss_one (ps_if (pt_cmpR op_lt (pv 2) pe_int (nomark _))
    (pss_one (ps_expr (pe_bm PySem.F.plainAttrs_list PySem.F.slot_list_append PySem.F.type_list_append mt_append (pv 1) (pa_cons (pv 2) pa_nil))))
    (pss_one (ps_expr (pe_bm PySem.F.plainAttrs_list PySem.F.slot_list_extend PySem.F.type_list_extend mt_extend (pv 1) (pa_cons (pe_c c__encode_long hr (by decide) rfl (pa_cons (pv 2) pa_nil)) pa_nil)))))))
    (pss_one (ps_ret (pv 1))))), ?_⟩)
  obtain ⟨_, rfl, a, cs, rfl, hR, hc, hn, h⟩ := h
  walk_at "rd"
  refine ⟨by show 0 ≤ sizeLine; decide, fun l hl => ?_⟩
  have hL : upd H l (.lst []) l = some (.lst ((encs (cs.take 0)).map V.int)) := upd_same
  have hS := same_upd hl (.lst [])
  generalize upd H l (.lst []) = H0 at hL hS ⊢
  have hR0 := row_same hR hS
  walk_at "rd"
  have ha : ∀ u, H0 a = some u → a ≠ l := fun u z e => by
    have hx : ∃ u, H a = some u := hR.elim (fun h => ⟨_, h⟩) fun h => ⟨_, h⟩
    obtain ⟨u, hu⟩ := hx
    rw [e, hl] at hu
    cases hu
  refine r_eachRow rfl hR0 (fun i σ H' => ∃ y, σ = [some (.ref a), some (.ref l), y] ∧ H' l = some (.lst ((encs (cs.take i)).map V.int)) ∧ ∀ b u, b ≠ l → H0 b = some u → H' b = some u) ⟨_, rfl, hL, fun _ _ _ z => z⟩
    (fun i σ H' p u z => by
      obtain ⟨y, _, _, g⟩ := p
      exact g a u (ha u z) z) ?_ ?_
  · rintro i c σ H1 hi ⟨y, rfl, g1, g2⟩
    have hP := hc c (List.mem_of_getElem? hi)
    have hlen : (encs (cs.take i)).length ≤ 4 * cs.length := by
      have h1 := len_encs (cs.take i)
      have h2 := List.length_take_le' i cs
      omega
    have hi' : i < cs.length := (List.getElem?_eq_some_iff.mp hi).1
    have hlen2 : (encs (cs.take i)).length + 4 ≤ 4 * cs.length := by
      have h1 := len_encs (cs.take i)
      have h2 : (cs.take i).length ≤ i := List.length_take_le _ _
      omega
    walk_at "rd"
    refine r_ite (fun c1 => ?_) (fun c1 => ?_)
    · walk_at "rd"
      refine ⟨tyL g1, ?_⟩
      walk_at "rd"
      refine r_appK g1 (by rw [List.length_map]; omega) fun H5 hL5 f5 => ?_
      refine ⟨_, rfl, ?_, fun b u p z => ?_⟩
      · rw [hL5, map_snoc, ints_step hi, encs_snoc, enc_low c1]
      · rw [f5 b p]
        exact g2 b u p z
    · walk_at "rd"
      refine ⟨tyL g1, ?_⟩
      walk_at "rd"
      refine ⟨_, rfl, c, rfl, by omega, hP.2.1, fun p H2 hp hp2 s2 => ?_⟩
      have hpl : p ≠ l := fun e => by
        rw [e, g1] at hp
        cases hp
      refine ⟨l, p, _, _, rfl, rfl, s2 _ _ g1, hp2, ?_, ?_⟩
      · rw [List.length_map, List.length_map]
        have := (len_enc1 c).2
        omega
      · refine ⟨_, rfl, ?_, fun b u q z => ?_⟩
        · rw [upd_same, ints_step hi, encs_snoc, List.map_append]
        · rw [upd_ne q]
          exact s2 _ _ (g2 b u q z)
  · rintro σ H1 ⟨y, rfl, g1, g2⟩
    rw [List.take_length] at g1
    walk_at "rd"
    refine h l H1 hl g1 fun b u z => ?_
    have hbl : b ≠ l := fun e => by
      rw [e, hl] at z
      cases z
    exact g2 b u hbl (hS b u z)
end

/-! ### heads, as numbers -/
def hdWd (i : Int) : Int := if i = 24 then 1 else if i = 25 then 2 else if i = 26 then 4 else if i = 27 then 8 else 0
theorem hdWd_nn (i : Int) : 0 ≤ hdWd i := by
  unfold hdWd
  split
  · decide
  split
  · decide
  split
  · decide
  split
  · decide
  · decide
def worthO (os : List Int) : Int := os.foldl (fun a o => a * 256 + o) 0
def foldO (a : Int) (os : List Int) : Int := os.foldl (fun a o => a * 256 + o) a
def be : Nat → Int → List Int
  | 0, _ => []
  | k + 1, n => be k (n / 256) ++ [n % 256]
theorem be_len : ∀ (k : Nat) (n : Int), (be k n).length = k
  | 0, _ => rfl
  | k + 1, n => by
    show (be k (n / 256) ++ [n % 256]).length = k + 1
    rw [List.length_append, be_len k]
    rfl
theorem fold_be : ∀ (k : Nat) (a n : Int), 0 ≤ n → n < 256 ^ k → foldO a (be k n) = a * 256 ^ k + n
  | 0, a, n, h0, h1 => by
    have : n < 1 := by simpa using h1
    show a = a * 1 + n
    omega
  | k + 1, a, n, h0, h1 => by
    have h2 : n / 256 < 256 ^ k := by
      refine Int.ediv_lt_of_lt_mul (by decide) ?_
      rw [← Int.pow_succ]
      exact h1
    have ih := fold_be k a (n / 256) (Int.ediv_nonneg h0 (by decide)) h2
    show (be k (n / 256) ++ [n % 256]).foldl _ a = _
    rw [List.foldl_append]
    show foldO a (be k (n / 256)) * 256 + n % 256 = _
    rw [ih, Int.pow_succ, Int.add_mul, Int.mul_assoc]
    omega
/-- an argument that stands in a head with this info -/
def HdFit (i n : Int) : Prop := (0 ≤ i ∧ i < 24 ∧ n = i) ∨ (24 ≤ i ∧ i ≤ 27 ∧ 0 ≤ n ∧ n < 256 ^ (hdWd i).toNat)
theorem wd_low {i : Int} (h : i < 24) : hdWd i = 0 := by
  unfold hdWd
  rw [if_neg (by omega), if_neg (by omega), if_neg (by omega), if_neg (by omega)]
theorem wd_high {i : Int} (h : 24 ≤ i) (h1 : i ≤ 27) : hdWd i ≠ 0 := by
  unfold hdWd
  rcases (show i = 24 ∨ i = 25 ∨ i = 26 ∨ i = 27 by omega) with rfl | rfl | rfl | rfl <;> decide
theorem HdFit.i {i n : Int} (h : HdFit i n) : 0 ≤ i ∧ i ≤ 27 := by
  rcases h with h | h <;> omega
theorem HdFit.n {i n : Int} (h : HdFit i n) : 0 ≤ n ∧ n < 18446744073709551616 := by
  rcases h with h | ⟨h1, h2, h3, h4⟩
  · omega
  · refine ⟨h3, Int.lt_of_lt_of_le h4 ?_⟩
    rcases (show i = 24 ∨ i = 25 ∨ i = 26 ∨ i = 27 by omega) with rfl | rfl | rfl | rfl <;> decide
/-- a head -/
def headI (m i n : Int) : List Int := (m * 32 + i) :: be (hdWd i).toNat n

/-! ### sorted(x, key=lambda y: ..): keys of any kind, new lists too -/
section
open PyProof.Rows PySem.W PySem.Calls
section
variable {prog : Program} {w : World} {A : Around} {E : Value → Shared → Prop} {s : Shared}
/-- a list or a tuple is collected -/
theorem collectQ {T : String} {l : Addr} {us : List Value} {o : Obj} {n : Nat} {Q : List Value → Shared → Prop} (hT : T = "list" ∨ T = "tuple") (ho : s.heap.get? l = some o) (hc : o.cls = .type T) (hd : o.data = .seq us.toArray n) (hz : us.length ≤ sizeLine)
    (q : Q us { s with heap := (s.heap.push (seqObj "list" #[] 0)).update s.heap.objs.size (Obj.mapSeq (· ++ us.toArray)) }) : wpAny (model prog w) A (collect (.ref l)) Q E s := by
  unfold collect
  refine wpAny_bind (wpAny_runValue (codeAny_builtin entry_proto_collect' ?_))
  show wpAny _ _ (do again (.builtin "list.__iadd__" ⟨[← newList [], .ref l], []⟩)) _ _ s
  refine wpAny_bind (wpAny_newList (wpAny_pure ⟨Code.quiet_builtin _ (by decide +kernel), codeAny_builtin entry_list_iadd' ?_⟩))
  show wpAny _ _ (Builtin.List.listExtendWith (.ref s.heap.objs.size) (.ref l) (.ref s.heap.objs.size)) _ _ { s with heap := s.heap.push (seqObj "list" #[] 0) }
  unfold Builtin.List.listExtendWith
  have hp := Heap.get?_push_of_some (seqObj "list" #[] 0) ho
  refine wpAny_bind (wpAny_typeOf (T := T) ⟨o, hp, hc⟩ ?_)
  have two : (Value.type "list" == Value.type "list") = true ∧ (Value.type "tuple" == Value.type "tuple") = true := ⟨rfl, rfl⟩
  rw [if_pos (by rcases hT with rfl | rfl <;> simp [two.1, two.2])]
  refine wpAny_bind (listItems_at hp hd ?_)
  refine wpAny_bind (listItems_at (n := 0) (xs := #[]) (Heap.get?_push_size _ rfl) rfl ?_)
  rw [if_neg (by simp)]
  refine wpAny_bind (listUpdate_at (n := 0) (xs := #[]) (Heap.get?_push_size _ rfl) rfl ?_ (Nat.zero_le _) (by show (#[] ++ us.toArray).size ≤ sizeLine + 1; simp only [Array.size_append, List.size_toArray, List.length_nil]; omega))
  refine wpAny_pure ?_
  show wpAny (model prog w) A (do
      let ob ← load s.heap.objs.size
      match ob.data with
      | .seq zs _ => pure zs.toList
      | _ => unsupported "internal:collect") Q E { s with heap := (s.heap.push (seqObj "list" #[] 0)).update s.heap.objs.size (Obj.mapSeq (· ++ us.toArray)) }
  refine wpAny_bind (wpAny_load (get?_update_seq (Heap.get?_push_size _ rfl) _) ?_)
  show wpAny _ _ (pure ((#[] : Array Value) ++ us.toArray).toList) Q E _
  rw [show ((#[] : Array Value) ++ us.toArray).toList = us by simp]
  exact wpAny_pure q
theorem sortedQ {T : String} {l : Addr} {us : List Value} {o : Obj} {n : Nat} {kw : List (Str × Value)} {Q : Value → Shared → Prop} (hT : T = "list" ∨ T = "tuple") (ho : s.heap.get? l = some o) (hc : o.cls = .type T) (hd : o.data = .seq us.toArray n) (hz : us.length ≤ sizeLine)
    (k1 : argsOk "sorted" ⟨[.ref l], kw⟩) (k2 : ∀ x, argsOk "list.sort" ⟨[.ref x], kw⟩)
    (q : ∀ E' : Value → Shared → Prop, wpAny (model prog w) A.in1.in1 (Builtin.«list.sort» ⟨[.ref (s.heap.objs.size + 1)], kw⟩) (fun f s' => f = .done (.ret .none) ∧ Q (.ref (s.heap.objs.size + 1)) s') E' { s with heap := copyHeap s.heap us }) :
    wpAny (model prog w) A (call (.builtin "sorted") [.ref l] kw) Q E s := by
  refine call_function_entry_kw kind_sorted plain_sorted entry_sorted k1 ?_
  unfold Builtin.«sorted»
  refine wpAny_bind (m := checkCount "sorted" 1 1 _) (wpAny_pure ?_)
  refine wpAny_bind (collectQ hT ho hc hd hz ?_)
  refine wpAny_bind (wpAny_newList ?_ hz)
  have hs2 : ((s.heap.push (seqObj "list" #[] 0)).update s.heap.objs.size (Obj.mapSeq (· ++ us.toArray))).objs.size = s.heap.objs.size + 1 := (Heap.size_update ..).trans (size_push' ..)
  show wpAny _ _ _ _ _ { s with heap := copyHeap s.heap us }
  rw [hs2]
  refine wpAny_bind (wpAny_holding (wpAny_call_entry_kw slot_list_sort ⟨_, copyHeap_at s.heap us, rfl⟩ entry_list_sort ?_ (k2 _)))
  show wpAny (model prog w) A.in1.in1 (Builtin.«list.sort» ⟨[.ref (s.heap.objs.size + 1)], kw⟩) _ _ _
  refine wpAny_mono (q _) (fun f s' hf => ?_) fun _ _ z => z
  obtain ⟨rfl, hq⟩ := hf
  exact ⟨_, rfl, wpAny_pure ⟨_, rfl, hq⟩⟩
end
/-- the heap without the object at k -/
def hole (h : Heap) (k : Addr) : Heap := h.update k fun o => { o with data := .freed }
theorem hole_none (h : Heap) (k : Addr) : (hole h k).get? k = none := by
  obtain ⟨os, l⟩ := h
  unfold hole Heap.get? Heap.update
  show (match (os.modify k fun o => { o with data := .freed })[k]? with | some ⟨_, _, .freed, _⟩ => none | o => o) = none
  rw [Array.getElem?_modify, if_pos rfl]
  cases os[k]? <;> rfl
theorem hole_keep {h : Heap} {k b : Addr} {o : Obj} (e : (hole h k).get? b = some o) : h.get? b = some o ∧ b ≠ k := by
  have nk : b ≠ k := fun z => by
    rw [z, hole_none] at e
    cases e
  exact ⟨((Heap.SameBut.update h k _).2 b nk).symm.trans e, nk⟩
/-- an address that nothing known stands at -/
structure NewA (X : Cx) (pins : List (Addr × Obj)) (H : Hp) (a : Addr) : Prop where
  n : H a = none
  s0 : X.s_0.heap.objs.size ≤ a
  l : a ≠ X.env.locals
  c : ∀ x c, X.env.cells.lookup x = some c → c ≠ a
  f : a ∉ X.fs
  p : ∀ p ∈ X.pn ++ pins, p.1 ≠ a
section
variable {X : Cx} {pins : List (Addr × Obj)} {σ : L2.St} {H : Hp} {s : Shared}
theorem newA_of (I : Inv X pins σ H s) {a : Addr} (h : s.heap.objs.size ≤ a) : NewA X pins H a :=
  ⟨I.hok.fresh h, Nat.le_trans I.sz h, Nat.ne_of_gt (Nat.lt_of_lt_of_le I.lt h), fun x c e z => by
    obtain ⟨v, o, ho, _⟩ := I.cell x c e
    exact absurd (Nat.lt_of_lt_of_le (Heap.lt_size ho) h) (by rw [z]; exact Nat.lt_irrefl _), I.nofs h, fun p hp z => by
    have e := (I.pin p hp).1
    exact absurd (Nat.lt_of_lt_of_le (Heap.lt_size e) h) (by rw [z]; exact Nat.lt_irrefl _)⟩
/-- such an object is written -/
theorem Inv.scr {k : Addr} {h' : Heap} {t' : Nat} (I : Inv X pins σ H s) (N : NewA X pins H k) (sb : ∀ b o, b ≠ k → s.heap.get? b = some o → h'.get? b = some o) (th : ∀ o, s.heap.get? k = some o → ∃ o', h'.get? k = some o') : Inv X pins σ H { s with heap := h', toks := t' } := by
  have nk : ∀ b u, H b = some u → b ≠ k := fun b u e z => by
    rw [z, N.n] at e
    cases e
  refine I.step (g' := s.gens) (d' := s.drawn) (ch := [k]) (fun b hb => ?_) (fun b o _ _ nb e n => sb b o (by simpa using nb) e) (fun b o _ _ nb e n => ⟨o.slots, sb b o (by simpa using nb) e⟩)
    (fun b o _ _ n => n) (fun b o nb e => ⟨o, sb b o (by simpa using nb) e⟩) (fun b xs e => e) (fun b o u e => e) (fun b qs e => ⟨#[], by rw [e]; simp⟩) (fun m hn => ?_) (fun b u e => ?_) I.bare
  · rw [List.mem_singleton.mp hb]
    exact ⟨.inr N.s0, N.l, N.c, N.p⟩
  · obtain ⟨ob, es, ep, ho, r⟩ := hn
    exact ⟨ob, es, ep, sb _ ob (Ne.symm N.l) ho, r⟩
  · refine (I.hok b u e).stay (fun d v hd q => sb d v ?_ q) (fun d q => q) fun d xs q => q
    rcases hd with z | z
    · rw [z]
      exact nk b u e
    · exact nk _ _ z
theorem Inv.scr2 {k a : Addr} {o : HO} {h' : Heap} {t' : Nat} (I : Inv X pins σ H s) (NK : NewA X pins H k) (N : NewA X pins H a) (sb : ∀ b o, b ≠ k → b ≠ a → s.heap.get? b = some o → h'.get? b = some o) (new : ObjOk X.prog X.w (upd H a o) h' a o) :
    Inv X pins σ (upd H a o) { s with heap := h', toks := t' } := by
  have nk : ∀ b u, H b = some u → b ≠ k := fun b u e z => by
    rw [z, NK.n] at e
    cases e
  have na : ∀ b u, H b = some u → b ≠ a := fun b u e z => by
    rw [z, N.n] at e
    cases e
  have two : ∀ {b : Addr}, b ∉ [k, a] → b ≠ k ∧ b ≠ a := fun h => by simpa using h
  refine I.step (g' := s.gens) (d' := s.drawn) (ch := [k, a]) (fun b hb => ?_) (fun b o _ _ nb e n => sb b o (two nb).1 (two nb).2 e) (fun b o _ _ nb e n => ⟨o.slots, sb b o (two nb).1 (two nb).2 e⟩)
    (fun b o nb _ n => (upd_ne (two nb).2).trans n) (fun b o nb e => ⟨o, sb b o (two nb).1 (two nb).2 e⟩) (fun b xs e => (upd_ne (na _ _ e)).trans e) (fun b o u e => (upd_ne (na _ _ e)).trans e) (fun b qs e => ⟨#[], by rw [upd_ne (na _ _ e), e]; simp⟩) (fun m hn => ?_) (fun b u e => ?_) I.bare
  · simp only [List.mem_cons, List.not_mem_nil, or_false] at hb
    rcases hb with rfl | rfl
    · exact ⟨.inr NK.s0, NK.l, NK.c, NK.p⟩
    · exact ⟨.inr N.s0, N.l, N.c, N.p⟩
  · obtain ⟨ob, es, ep, ho, r⟩ := hn
    exact ⟨ob, es, ep, sb _ ob (Ne.symm NK.l) (Ne.symm N.l) ho, r⟩
  · by_cases hb : b = a
    · rw [hb, upd_same] at e
      cases e
      rw [hb]
      exact new
    · rw [upd_ne hb] at e
      refine (I.hok b u e).stay (fun d v hd q => sb d v ?_ ?_ q) (fun d q => (upd_ne (na _ _ q)).trans q) fun d xs q => (upd_ne (na _ _ q)).trans q
      · rcases hd with z | z
        · rw [z]
          exact nk b u e
        · exact nk _ _ z
      · rcases hd with z | z
        · rw [z]
          exact hb
        · exact na _ _ z
end
theorem same_lst {K : Frg} {H H' : Hp} {a : Addr} {xs : List V} (m : Same H H') (h : SqL K H a xs) : SqL K H' a xs := by
  rcases h with (h | ⟨u, h⟩) | h
  · exact .inl (.inl (m _ _ h))
  · exact .inl (.inr ⟨u, m _ _ h⟩)
  · exact .inr h
mutual
theorem Dp.mono {K : Frg} {H H' : Hp} (m : Same H H') : ∀ {v : V} {d : PyData}, Dp K H v d → Dp K H' v d
  | _, _, .non => .non
  | _, _, .bl b => .bl b
  | _, _, .int i => .int i
  | _, _, .str x => .str x
  | _, _, .lst h t => .lst (same_lst m h) (DpAll.mono m t)
  | _, _, .tup h t => .tup (same_tup m h) (DpAll.mono m t)
theorem DpAll.mono {K : Frg} {H H' : Hp} (m : Same H H') : ∀ {vs : List V} {ds : List PyData}, DpAll K H vs ds → DpAll K H' vs ds
  | _, _, .nil => .nil
  | _, _, .cons h t => .cons (Dp.mono m h) (DpAll.mono m t)
end
def KeyR (X : Cx) (H : Hp) (u : Value) (d : PyData) : Prop := ∃ x, RelV x u ∧ Dp X.K H x d
/-- the pin of the list that is being sorted -/
def pinA (a : Addr) (e : Nat) : Addr × Obj := (a, seqObj "list" #[] e)
section
variable {X : Cx} {pins : List (Addr × Obj)} {σ : L2.St} {H : Hp} {s : Shared}
theorem NewA.pin {a : Addr} {o : Obj} {k : Addr} (N : NewA X pins H k) (h : a ≠ k) : NewA X ((a, o) :: pins) H k :=
  ⟨N.n, N.s0, N.l, N.c, N.f, fun p hp => by
    rcases List.mem_append.mp hp with z | z
    · exact N.p p (List.mem_append_left _ z)
    · rcases List.mem_cons.mp z with z | z
      · rw [z]
        exact h
      · exact N.p p (List.mem_append_right _ z)⟩
theorem NewA.to {H' : Hp} {k : Addr} (N : NewA X pins H k) (h : H' k = none) : NewA X pins H' k := ⟨h, N.s0, N.l, N.c, N.f, N.p⟩
theorem Inv.pinN {k : Addr} {o : Obj} (I : Inv X pins σ H s) (N : NewA X pins H k) (e : s.heap.get? k = some o) (nc : ∀ v, o.data ≠ .cell v) : Inv X ((k, o) :: pins) σ H s :=
  I.pins_of fun p hp => by
    rcases List.mem_cons.mp hp with z | z
    · rw [z]
      exact ⟨e, N.n, N.l, N.f, nc⟩
    · exact I.pin p (List.mem_append_right _ z)
theorem Inv.unpin {k : Addr × Obj} (I : Inv X (k :: pins) σ H s) : Inv X pins σ H s := I.pins_of fun p hp => I.pin p (List.mem_append_right _ (List.mem_cons_of_mem _ hp))
theorem Inv.pinned1 {k : Addr} {o : Obj} (I : Inv X ((k, o) :: pins) σ H s) : s.heap.get? k = some o ∧ H k = none := by
  have q := I.pin (k, o) (List.mem_append_right _ (List.mem_cons_self ..))
  exact ⟨q.1, q.2.1⟩
theorem NewA.same {k : Addr} {o : Obj} (N : NewA X ((k, o) :: pins) H k) : False := N.p (k, o) (List.mem_append_right _ (List.mem_cons_self ..)) rfl
/-- the keys are made, one by one -/
theorem keys_run {A : Around} {f : Value} {a kS : Addr} {us : List Value} {e1 : Nat} {b : Bool} {kz : List PyData} {Pf : PySem.Fin → Shared → Prop} {E' : Value → Shared → Prop} (I : Inv X (pinA a e1 :: pins) σ H s) (NK : NewA X (pinA a e1 :: pins) H kS)
    (nk : s.heap.get? kS = some (seqObj "list" #[] 0)) (hl : kz.length = us.length) (hz : us.length ≤ sizeLine)
    (turn : ∀ (i : Nat) (u : Value) (d : PyData), us[i]? = some u → kz[i]? = some d → ∀ (pins' : List (Addr × Obj)) (H' : Hp) (s' : Shared), (∀ p ∈ pins, p ∈ pins') → Inv X pins' σ H' s' → Same H H' → wpAny (model X.prog X.w) A (call f [u]) (EP X pins' σ fun x H'' => Same H' H'' ∧ Dp X.K H'' x d) (fun _ _ => False) s')
    (done : ∀ (H' : Hp) (s' : Shared) (kA : Array Value) (e : Nat), Inv X (pinA a e1 :: pins) σ H' s' → Same H H' → NewA X (pinA a e1 :: pins) H' kS → s'.heap.get? kS = some (seqObj "list" kA e) → EachIs (KeyR X H') kA.toList kz → wpAny (model X.prog X.w) A (ksk_end a b us.toArray e1 (.ref kS) kA) Pf E' s') :
    wpAny (model X.prog X.w) A (ksk_rest a f b us.toArray e1 (.ref kS)) Pf E' s := by
  unfold ksk_rest
  refine wpAny_bind (wpAny_rule ?_)
  first
    | rw [List.forIn_toArray]
    | (rw [← Array.forIn_toList]; simp only [List.toList_toArray])
  refine wpAny_bind (ksk_fold (fun i s' => ∃ (H' : Hp) (kA : Array Value) (e : Nat), Inv X (pinA a e1 :: pins) σ H' s' ∧ Same H H' ∧ NewA X (pinA a e1 :: pins) H' kS ∧ s'.heap.get? kS = some (seqObj "list" kA e) ∧ EachIs (KeyR X H') kA.toList (kz.take i)) us 0 s
    ⟨H, #[], 0, I, fun _ _ q => q, NK, nk, by rw [List.take_zero]; exact EachIs.nil⟩ (fun j u s' hu hh => ?_) (fun s' hh => ?_))
  · obtain ⟨H', kA, e, I', sm, NK', nk', ek⟩ := hh
    rw [Nat.zero_add] at ek ⊢
    have hj : j < us.length := (List.getElem?_eq_some_iff.mp hu).1
    obtain ⟨d, hd⟩ : ∃ d, kz[j]? = some d := ⟨_, List.getElem?_eq_getElem (by omega)⟩
    have kl : kA.size ≤ us.length := by
      have := ek.length
      rw [Array.length_toList, List.length_take] at this
      omega
    refine wpAny_bind (wpAny_attempt (wpAny_mono (turn j u d hu hd ((kS, seqObj "list" kA e) :: pinA a e1 :: pins) H' s' (fun p hp => by simp [hp]) (Inv.pinN I' NK' nk' (fun v z => by cases z)) sm) (fun v s'' he => ?_) fun _ _ z => z.elim))
    obtain ⟨x, H'', I'', rx, sm2, dx⟩ := he
    obtain ⟨nk2, hk2⟩ := Inv.pinned1 I''
    have I3 := Inv.unpin I''
    have N3 : NewA X (pinA a e1 :: pins) H'' kS := NK'.to hk2
    have sb := Heap.SameBut.update s''.heap kS (Obj.mapSeq (·.push v))
    obtain ⟨c2, hc2⟩ : ∃ c2, (s''.heap.update kS (Obj.mapSeq (·.push v))).get? kS = some (seqObj "list" (kA.push v) c2) := ⟨_, get?_update_seq nk2 (·.push v)⟩
    refine wpAny_bind (listUpdate_at nk2 rfl ?_ (Nat.le_trans kl hz) (Nat.le_trans (Nat.le_of_eq (Array.size_push ..)) (Nat.succ_le_succ (Nat.le_trans kl hz))))
    refine wpAny_pure ⟨rfl, H'', kA.push v, c2, Inv.scr (t' := s''.toks) I3 N3 (fun b o nb q => (sb.2 b nb).trans q) (fun _ _ => ⟨_, hc2⟩), fun x u q => sm2 _ _ (sm _ _ q), N3, hc2, ?_⟩
    rw [Array.toList_push, List.take_succ, hd]
    exact each_snoc (R := KeyR X H'') ⟨x, rx, dx⟩ (ek.mono fun u d q => by
      obtain ⟨x, r, dd⟩ := q
      exact ⟨x, r, Dp.mono sm2 dd⟩)
  · obtain ⟨H', kA, e, I', sm, NK', nk', ek⟩ := hh
    rw [Nat.zero_add, List.take_of_length_le (by omega)] at ek
    refine wpAny_bind (listItems_at nk' rfl ?_)
    exact done H' s' kA e I' sm NK' nk' ek
end
/-- items beside their keys -/
abbrev KeyB : Type := V × PyData
theorem zip_each : ∀ {xs : List V} {us : List Value} {kz : List PyData}, Vals xs us → kz.length = xs.length → EachIs (fun u (b : KeyB) => RelV b.1 u) us (xs.zip kz)
  | _, _, [], .nil, _ => .nil
  | _, _, _ :: _, .nil, h => by cases h
  | _, _, [], .cons _ _, h => by cases h
  | _, _, k :: kz, .cons r t, h => .cons r (zip_each t (by simpa using h))
theorem each_val1 : ∀ {us : List Value} {bs : List KeyB}, EachIs (fun u (b : KeyB) => RelV b.1 u) us bs → Vals (bs.map (·.1)) us
  | _, _, .nil => .nil
  | _, _, .cons r t => .cons r (each_val1 t)
/-- the items in the order of their keys -/
def srtK (xs : List V) (kz : List PyData) : List V := ((xs.zip kz).mergeSort (dataLe false fun b : KeyB => b.2)).map (·.1)
section
variable {X : Cx} {pins : List (Addr × Obj)} {σ : L2.St} {H : Hp} {s : Shared}
theorem sorted_key {T : String} {l f : Addr} {xs : List V} {us : List Value} {o : Obj} {n : Nat} {kz : List PyData} {Q : VK} {E' : Value → Shared → Prop} (hu : X.A.units + 64 < cLine) (I : Inv X pins σ H s) (hT : T = "list" ∨ T = "tuple") (ho : s.heap.get? l = some o) (hc : o.cls = .type T) (hd : o.data = .seq us.toArray n) (hz : us.length ≤ sizeLine)
    (rv : Vals xs us) (hl : kz.length = xs.length) (hal : AllAlike kz) (hk : Sortable kz) (hdp : ∀ d ∈ kz, d.depth ≤ 40)
    (turn : ∀ (i : Nat) (u : Value) (d : PyData), us[i]? = some u → kz[i]? = some d → ∀ (pins' : List (Addr × Obj)) (H' : Hp) (s' : Shared), (∀ p ∈ pins, p ∈ pins') → Inv X pins' σ H' s' → Same H H' → wpAny (model X.prog X.w) X.A.in1.in1 (call (.ref f) [u]) (EP X pins' σ fun x H'' => Same H' H'' ∧ Dp X.K H'' x d) (fun _ _ => False) s')
    (q : ∀ (p : Addr) (H' : Hp), Same H H' → H' p = none → Q (.ref p) (upd H' p (.lst (srtK xs kz)))) :
    wpAny (model X.prog X.w) X.A (call (.builtin "sorted") [.ref l] [(Str.ofString "key", .ref f)]) (EP X pins σ Q) E' s := by
  have lx := rv.length
  refine sortedQ hT ho hc hd hz (ksk_s1 _ _) (fun _ => ksk_l1 _ _) fun E2 => ?_
  rw [ksk_t1]
  have hoA := copyHeap_at s.heap us
  have kp0 : ∀ b o, s.heap.get? b = some o → (copyHeap s.heap us).get? b = some o := fun b o => copyHeap_old
  have szA : s.heap.objs.size ≤ s.heap.objs.size + 1 := Nat.le_succ _
  have NA := newA_of I szA
  have ltA : s.heap.objs.size + 1 < (copyHeap s.heap us).objs.size := Heap.lt_size hoA
  generalize s.heap.objs.size + 1 = a at hoA szA NA ltA ⊢
  generalize copyHeap s.heap us = h0 at hoA kp0 ltA ⊢
  obtain ⟨e1, ho1⟩ : ∃ e1, (h0.update a (Obj.mapSeq fun _ => (#[] : Array Value))).get? a = some (seqObj "list" #[] e1) := ⟨_, get?_update_seq hoA fun _ => #[]⟩
  have sb := Heap.SameBut.update h0 a (Obj.mapSeq fun _ => (#[] : Array Value))
  have sz1 : (h0.update a (Obj.mapSeq fun _ => (#[] : Array Value))).objs.size = h0.objs.size := Heap.size_update ..
  unfold ksk_tree
  refine wpAny_bind (listItems_at hoA rfl ?_)
  refine wpAny_bind (listUpdate_at hoA rfl ?_ (by rw [List.size_toArray]; exact hz) (Nat.zero_le _))
  refine wpAny_bind (seqEpoch_at ho1 rfl ?_)
  refine wpAny_bind (wpAny_newTuple ?_ (by show us.length ≤ _; exact hz))
  refine wpAny_bind (wpAny_newList ?_ (Nat.zero_le _))
  refine wpAny_holding ?_
  generalize h0.update a (Obj.mapSeq fun _ => (#[] : Array Value)) = h1 at ho1 sb sz1 ⊢
  have ho2 : (h1.push (seqObj "tuple" us.toArray 0)).get? a = some (seqObj "list" #[] e1) := Heap.get?_push_of_some _ ho1
  have kp2 : ∀ b o, s.heap.get? b = some o → (h1.push (seqObj "tuple" us.toArray 0)).get? b = some o := fun b o e => Heap.get?_push_of_some _ ((sb.2 b (fun z => absurd (Heap.lt_size e) (by rw [z]; exact Nat.not_lt.mpr szA))).trans (kp0 b o e))
  have sz2 : (h1.push (seqObj "tuple" us.toArray 0)).objs.size = h1.objs.size + 1 := size_push' ..
  have ha2 : a < (h1.push (seqObj "tuple" us.toArray 0)).objs.size := Heap.lt_size ho2
  have hs2 : s.heap.objs.size ≤ (h1.push (seqObj "tuple" us.toArray 0)).objs.size := Nat.le_of_lt (Nat.lt_of_le_of_lt szA ha2)
  show wpAny _ _ (ksk_rest a (.ref f) false us.toArray e1 (.ref (h1.push (seqObj "tuple" us.toArray 0)).objs.size)) _ _ { s with heap := (h1.push (seqObj "tuple" us.toArray 0)).push (seqObj "list" #[] 0) }
  generalize h1.push (seqObj "tuple" us.toArray 0) = h2 at ho2 kp2 ha2 hs2 ⊢
  have I1 : Inv X pins σ H { s with heap := h2.push (seqObj "list" #[] 0) } := I.kept (t' := s.toks) fun b o e => Heap.get?_push_of_some _ (kp2 b o e)
  have I2 := Inv.pinN I1 NA (Heap.get?_push_of_some _ ho2) (fun v z => by cases z)
  have NK : NewA X (pinA a e1 :: pins) H h2.objs.size := (newA_of I hs2).pin (Nat.ne_of_lt ha2)
  refine keys_run I2 NK (Heap.get?_push_size _ rfl) (hl.trans lx) hz turn fun H' s' kA e I' sm NK' nk' ek => ?_
  obtain ⟨na', hna⟩ := Inv.pinned1 I'
  have er : EachIs (fun v d => ∃ as, Reads s'.heap v d as) kA.toList kz := ek.mono fun u d q => by
    obtain ⟨x, r, dd⟩ := q
    exact Dp.reads I' d x u dd r
  have hsz : kA.size = us.length := by
    have := ek.length
    rw [Array.length_toList] at this
    omega
  have hh : ∀ b o, b ≠ h2.objs.size → ((hole s'.heap h2.objs.size).get? b = some o ↔ s'.heap.get? b = some o) := fun b o nb => by
    unfold hole
    rw [(Heap.SameBut.update s'.heap h2.objs.size _).2 b nb]
  refine keyH_end (κ := dataKind s'.heap kz) (h₁ := hole s'.heap h2.objs.size) (fun b o _ e => (hole_keep e).1) (hole_none _ _) nk' na' (Nat.ne_of_gt ha2) (SortsAt.data er hal hk fun d hd2 => ?_) hsz hz fun h' tk c kp hD => ⟨rfl, ?_⟩
  · have := hdp d hd2
    show X.A.units + 1 + 1 + d.depth < cLine
    omega
  · have ko : KeyedOut false kz us (sortVals (dataKind s'.heap kz) false kA.toList us) := ⟨s'.heap, kA.toList, hal, rfl, er⟩
    have ez : (xs.zip kz).map (fun b : KeyB => b.2) = kz := by
      rw [List.map_snd_zip]
      omega
    have ro := keyedOut_each (bs := xs.zip kz) (R := fun u (b : KeyB) => RelV b.1 u) (fun b : KeyB => b.2) (by rw [ez]; exact ko) (zip_each rv hl)
    have vo := each_val1 ro
    have ll : (srtK xs kz).length ≤ sizeLine := by
      unfold srtK
      rw [List.length_map, List.length_mergeSort, List.length_zip]
      omega
    refine ⟨.ref a, upd H' a (.lst (srtK xs kz)), ?_, rfl, q a H' sm hna⟩
    refine Inv.scr2 (t' := tk) (Inv.unpin I') ⟨NK'.n, NK'.s0, NK'.l, NK'.c, NK'.f, fun p hp => ?_⟩ (NA.to hna) (fun b o nk na e => kp b o na ((hh b o nk).mpr e)) ⟨ll, _, c, vo, hD⟩
    rcases List.mem_append.mp hp with z | z
    · exact NK'.p p (List.mem_append_left _ z)
    · exact NK'.p p (List.mem_append_right _ (List.mem_cons_of_mem _ z))
end
end

/-! ### the lambda that gives the keys -/
section
open PyProof.Rows PySem.W PySem.Calls LamX
theorem clo_none {cells : List (Str × Addr)} : ∀ {ns : List (Str × NameKind)} {acc : List (Str × Addr)}, (∀ y ∈ ns, y.2 ≠ .free) → cloFrom cells ns acc = acc
  | [], _, _ => rfl
  | (n, k) :: r, acc, h => by
    have hk : (k == NameKind.free) = false := by
      have := h (n, k) (List.mem_cons_self ..)
      cases k <;> first | rfl | exact absurd rfl this
    unfold cloFrom
    rw [hk]
    exact clo_none fun y hy => h y (List.mem_cons_of_mem _ hy)
/-- the lambda's own object -/
def lamO (q : Str) (params : Arguments) (body : Expr) (scope : Scope) (c' : Addr) (pm ctv : Value) : Obj := kla_obj "<lambda>" q params body scope [] pm c' ctv
theorem lam1_run {CX : CXT} {P : Program} {w : World} {K : Frg} {mg : Str → Option Value} {base : Heap} {N : List Str} {p q : Str} {k : Nat} {f c' : Addr} {params : Arguments} {body : Expr} {scope : Scope} {pm ctv : Value} {A : Around} {outer : List Env} {s : Shared} {H : Hp} {u : Value} {v : V} {Q : VK} {E : XK} {tb : TE}
    (S : FnScope N [p] scope) (of : s.heap.get? f = some (lamO q params body scope c' pm ctv)) (hco : H c' = some (CodeO c' q)) (hr : Room (k + 1) A) (e0 : Env0 P w K mg base A outer s H)
    (hb : bindArgs (kla_fn "<lambda>" q params body scope [] pm (.ref c') ctv) ⟨[u], []⟩ = pure [(p, u)]) (r : RelV v u)
    (hbody : Room k (A.deeper (envOfC q scope s.heap.objs.size f (.ref c'))) → PE (cxOf CX P w K mg base N q scope f (.ref c') A outer s H E) body tb) (h : tb (L2.start N [v]) H Q) :
    codeAny (model P w) A (.call (.ref f) ⟨[u], []⟩) (CR CX outer P w H s Q E) s := by
  have lim : s.heap.NoLimit := e0.mod.nolimit.keeps fun b o e => (e0.bs b o e).1
  obtain ⟨⟨oc, vs, t, hoc, hdc, hvc⟩, _, _⟩ := e0.hok c' _ hco
  refine kla_callFunE hr.depth of rfl S.co S.gen rfl ⟨c', oc, vs, t, rfl, hoc, hdc, hvc⟩ ?_
  show wpAny (model P w) A.in1 (bindArgs (kla_fn "<lambda>" q params body scope [] pm (.ref c') ctv) ⟨[u], []⟩) _ _ _
  rw [hb]
  refine wpAny_pure (wpAny_newFunctionEnv_cells S.kind (fun y hy => ?_) fun env he s1 x => ?_)
  · rw [List.mem_singleton.mp hy]
    rcases S.par p (List.mem_singleton.mpr rfl) with z | z
    · exact .inl z
    · exact .inr ⟨z, cellsFrom_some _ _ _ (.inl z)⟩
  subst he
  refine ⟨lim.keeps x.toInCall.keep, ?_⟩
  show codeAny _ _ (.expr body (envOfC q scope s.heap.objs.size f (.ref c'))) _ _
  have I : Inv (cxOf CX P w K mg base N q scope f (.ref c') A outer s H E) [] (L2.start N [v]) H s1 := inv_start (ps := [p]) (us := [u]) S hr.hd e0 rfl (.cons r .nil) x
  refine kla_codeExpr (wpAny_mono ((hbody (hr.deeper _)).run [] s1 _ H Q I h) (fun u' s' hq => ?_) fun e s' hq => hq)
  obtain ⟨v', H', J, rv, q⟩ := hq
  exact ⟨v', H', J.os, J.bare, J.base, J.hok, rv, q⟩
def tSortK (K : Frg) (T : List (Addr × Str)) (N : List Str) (to tb : TE) : TE := fun σ H Q => to σ H fun x H1 => Tabs T H1 ∧ ∃ (l : Addr) (xs : List V) (kz : List PyData), x = .ref l ∧ (SqL K H1 l xs ∨ SqT K H1 l xs) ∧ kz.length = xs.length ∧ AllAlike kz ∧ Sortable kz ∧ (∀ d ∈ kz, d.depth ≤ 40) ∧
  ∀ H2, ExtN H1 H2 → Tabs T H2 → (∀ (i : Nat) (y : V) (d : PyData), xs[i]? = some y → kz[i]? = some d → ∀ H3, Same H2 H3 → tb (L2.start N [y]) H3 fun v H4 => Same H3 H4 ∧ Dp K H4 v d) ∧
    ∀ (p : Addr) (H3 : Hp), Same H2 H3 → H3 p = none → Q (.ref p) (upd H3 p (.lst (srtK xs kz)))
theorem ext_lst {K : Frg} {H H' : Hp} {a : Addr} {xs : List V} (e : ExtN H H') (h : SqL K H a xs) : SqL K H' a xs := by
  rcases h with (h | ⟨u, h⟩) | h
  · exact .inl (.inl (e _ _ h fun ps z => by cases z))
  · exact .inl (.inr ⟨u, e _ _ h fun ps z => by cases z⟩)
  · exact .inr h
theorem ext_tup {K : Frg} {H H' : Hp} {a : Addr} {xs : List V} (e : ExtN H H') (h : SqT K H a xs) : SqT K H' a xs := by
  rcases h with (h | ⟨u, h⟩) | h
  · exact .inl (.inl (e _ _ h fun ps z => by cases z))
  · exact .inl (.inr ⟨u, e _ _ h fun ps z => by cases z⟩)
  · exact .inr h
section
variable {X : Cx} {pins : List (Addr × Obj)} {σ : L2.St} {H : Hp} {s : Shared}
theorem vals_at : ∀ {xs : List V} {us : List Value} {i : Nat} {u : Value}, Vals xs us → us[i]? = some u → ∃ x, xs[i]? = some x ∧ RelV x u
  | _, _, 0, _, .cons r _, h => by
    cases (show some _ = some _ from h)
    exact ⟨_, rfl, r⟩
  | _, _, i + 1, _, .cons _ t, h => vals_at (i := i) t (by simpa using h)
theorem pe_sortlam {T : List (Addr × Str)} {c P : Addr} {N : List Str} {p : Str} {k : Nat} {e : Expr} {params : Arguments} {body : Expr} {scope : Scope} {to tb : TE} {pn lpos kpos pos : Pos} (ha : PA X [e] (tCons to tNil))
    (hg : Gl X ("sorted" : Str)) (hm : X.mg ("sorted" : Str) = none) (hv : bootBuiltins ("sorted" : Str) = some (.builtin "sorted")) (TB : TabB X.base X.mg c P) (hcode : X.env.code = .ref c) (hmT : (P, X.env.qual ++ "<lambda>") ∈ T) (hu : ∀ p ∈ T, p.1 = P → p.2 = X.env.qual ++ "<lambda>")
    (hr : Room (k + 3) X.A) (S : FnScope N [p] scope) (hdef : defaultsOf params X.env = ([], [])) (hbind : ∀ (q : Str) (pm cv ctv : Value) (u : Value), bindArgs (kla_fn "<lambda>" q params body scope [] pm cv ctv) ⟨[u], []⟩ = pure [(p, u)])
    (hbody : ∀ (A : Around) (outer : List Env) (s : Shared) (H : Hp) (f c' : Addr), Room k (A.deeper (envOfC (X.env.qual ++ "<lambda>") scope s.heap.objs.size f (.ref c'))) → PE (cxOf C8.CX0 X.prog X.w X.K X.mg X.base N (X.env.qual ++ "<lambda>") scope f (.ref c') A outer s H C8.E0) body tb)
    (hn : ("sorted" : Str) ≠ "__name__" := by decide) (hdb : (("sorted" : Str) == ("__debug__" : Str)) = false := by decide)
    (he : backTo pos (starEach [e] X.env) = (false, eval e X.env) :: backTo pos (starEach [] X.env) := by rfl) (hpl : (backTo pos (starEach [e] X.env)).any (·.1) = false := by rfl) :
    PE X (.Call (.Name "sorted" pn) [e] [⟨some "key", .Lambda params body scope lpos, kpos⟩] pos) (tSortK X.K T N to tb) := by
  refine ⟨fun pins s σ H Q I h => ?_⟩
  refine wpAny_Call_Name_kw (ld_blt I hg hm hv ?_ hn hdb)
  let R : V → Hp → Prop := fun x H1 => Tabs T H1 ∧ ∃ (l : Addr) (xs : List V) (kz : List PyData), x = .ref l ∧ (SqL X.K H1 l xs ∨ SqT X.K H1 l xs) ∧ kz.length = xs.length ∧ AllAlike kz ∧ Sortable kz ∧ (∀ d ∈ kz, d.depth ≤ 40) ∧
    ∀ H2, ExtN H1 H2 → Tabs T H2 → (∀ (i : Nat) (y : V) (d : PyData), xs[i]? = some y → kz[i]? = some d → ∀ H3, Same H2 H3 → tb (L2.start N [y]) H3 fun v H4 => Same H3 H4 ∧ Dp X.K H4 v d) ∧
      ∀ (p : Addr) (H3 : Hp), Same H2 H3 → H3 p = none → Q (.ref p) (upd H3 p (.lst (srtK xs kz)))
  refine PyProof.Rows.callWith_kw (thn (ha.run pos pins s σ H (fun vs H1 => match vs with | [x] => R x H1 | _ => False) I h) fun us s1 ⟨vs, H1, I1, r1, q1⟩ => kws_cons ?_) he hpl rfl rfl
  match vs, q1 with
  | [], q1 => exact (show False from q1).elim
  | _ :: _ :: _, q1 => exact (show False from q1).elim
  | [x], q1 =>
    obtain ⟨T1, l, xs, kz, rfl, hs, hl, hal, hk, hdp, q⟩ := (show R x H1 from q1)
    obtain ⟨u0, rfl, rx⟩ := vals1 r1
    obtain rfl : u0 = Value.ref l := rx
    have nofree : ∀ y ∈ scope.names, y.2 = .free → ∃ c, X.env.cells.lookup y.1 = some c := fun y hy e => absurd e (S.nofree y hy)
    refine lam_make2 I1 TB hcode hmT hu T1 hdef nofree fun f c' pm ctv H2 s2 I2 eN T2 hf hfn hfr hco => ?_
    rw [clo_none S.nofree] at hf
    refine kws_nil ?_
    show wpAny (model X.prog X.w) X.A (call (.builtin "sorted") [.ref l] [(Str.ofString "key", .ref f)]) (EP X pins σ Q) X.xe s2
    obtain ⟨q1, q2⟩ := q H2 eN T2
    have hsub : ∀ b ∈ X.fs, b ∈ frs X.stack := fun b hb => by
      rcases I2.ok.stk with e | ⟨e, hf⟩
      · rw [e]
        exact hb
      · rw [e]
        unfold frs
        rw [List.filterMap_cons, hf]
        exact List.mem_cons_of_mem _ hb
    have I3 : Inv X ((f, lamO (X.env.qual ++ "<lambda>") params body scope c' pm ctv) :: pins) σ H2 s2 := I2.pins_of fun p hp => by
      rcases List.mem_cons.mp hp with z | z
      · rw [z]
        refine ⟨hf, hfn, fun e => ?_, fun hb => hfr (hsub _ hb), fun v z => by cases z⟩
        obtain ⟨m, ⟨o', es, ep, ho', hd', _⟩, _⟩ := I2.loc
        have e : f = X.env.locals := e
        rw [← e, hf] at ho'
        cases ho'
        cases hd'
      · exact I2.pin p (List.mem_append_right _ z)
    have go : ∀ {Ty : String} {us : List Value} {o : Obj} {n : Nat}, (Ty = "list" ∨ Ty = "tuple") → s2.heap.get? l = some o → o.cls = .type Ty → o.data = .seq us.toArray n → us.length ≤ sizeLine → Vals xs us → wpAny (model X.prog X.w) X.A (call (.builtin "sorted") [.ref l] [(Str.ofString "key", .ref f)]) (EP X pins σ Q) X.xe s2 := fun {Ty us o n} hT ho hc hd hz rv => by
      refine wpAny_mono (sorted_key (Q := Q) (by have := hr.un; omega) I3 hT ho hc hd hz rv hl hal hk hdp (fun i u d hu hd2 pins' H' s' hp I' sm => ?_) q2) (fun v s' hq => ?_) fun _ _ z => z
      · obtain ⟨y, hy, ry⟩ := vals_at rv hu
        have of := (I'.pin _ (List.mem_append_right _ (hp _ (List.mem_cons_self ..)))).1
        have rc := lam1_run (CX := C8.CX0) (E := C8.E0) (k := k) (A := X.A.in1.in1) (outer := X.stack) (Q := fun x H'' => Same H' H'' ∧ Dp X.K H'' x d) S of (sm _ _ hco) hr.in1.in1 I'.env0.in1.in1 (hbind _ _ _ _ u) ry (hbody _ _ _ _ _ _) (q1 i y d hy hd2 H' sm)
        refine wpAny_call (codeAny_mono rc fun r s3 hq => ?_)
        cases r with
        | error e => exact (show False from hq).elim
        | ok fl =>
          cases fl with
          | ret u => exact I'.after hq
          | next => exact False.elim hq
          | brk => exact False.elim hq
          | cont => exact False.elim hq
      · obtain ⟨w', H', J, rr, qq⟩ := hq
        exact ⟨w', H', Inv.unpin J, rr, qq⟩
    rcases hs with hs | hs
    · obtain ⟨its, rv, ⟨o, n, ho, hc, _, hd⟩, hz⟩ := I2.list (ext_lst eN hs)
      exact go (.inl rfl) ho hc hd (by rw [← rv.length]; exact hz) rv
    · obtain ⟨its, rv, ⟨o, ho, hc, n, hd⟩, hz⟩ := I2.tuple (ext_tup eN hs)
      exact go (.inr rfl) ho hc hd (by rw [← rv.length]; exact hz) rv
end
end

/-! ### octets, heads: what both writers share -/
def Out (H : Hp) (xs : List Int) (Q : VK) : Prop := ∀ (p : Addr) (H' : Hp), H p = none → H' p = some (.lst (xs.map V.int)) → Same H H' → Q (.ref p) H'
/-- octets, not too many -/
def Oct (n : Nat) (os : List Int) : Prop := os.length ≤ n ∧ ∀ o ∈ os, 0 ≤ o ∧ o ≤ 255
theorem Oct.app {n m : Nat} {a b : List Int} (h1 : Oct n a) (h2 : Oct m b) : Oct (n + m) (a ++ b) := ⟨by rw [List.length_append]; exact Nat.add_le_add h1.1 h2.1, fun o ho => (List.mem_append.mp ho).elim (h1.2 o) (h2.2 o)⟩
theorem Oct.mono {n m : Nat} {a : List Int} (h : Oct n a) (l : n ≤ m) : Oct m a := ⟨Nat.le_trans h.1 l, h.2⟩
theorem be_oct : ∀ (k : Nat) (n : Int), Oct k (be k n)
  | 0, _ => ⟨Nat.le_refl _, fun o ho => by cases ho⟩
  | k + 1, n => (be_oct k (n / 256)).app (m := 1) ⟨Nat.le_refl _, fun o ho => by
    rw [List.mem_singleton.mp ho]
    omega⟩
theorem be_left : ∀ (k : Nat) (n : Int), be (k + 1) n = [n / 256 ^ k % 256] ++ be k n
  | 0, n => by
    show [] ++ [n % 256] = [n / 1 % 256] ++ []
    rw [Int.ediv_one]
    rfl
  | k + 1, n => by
    show be (k + 1) (n / 256) ++ [n % 256] = _
    rw [be_left k (n / 256)]
    show [n / 256 / 256 ^ k % 256] ++ be k (n / 256) ++ [n % 256] = [n / 256 ^ (k + 1) % 256] ++ (be k (n / 256) ++ [n % 256])
    rw [Int.ediv_ediv_of_nonneg (by decide), Int.pow_succ, Int.mul_comm 256, List.append_assoc]
theorem wd_le (i : Int) : (hdWd i).toNat ≤ 8 := by
  unfold hdWd
  repeat' split
  all_goals decide
theorem headI_oct {m i n : Int} (h0 : 0 ≤ m) (h1 : m ≤ 7) (hf : HdFit i n) : Oct 9 (headI m i n) := by
  obtain ⟨a, b⟩ := hf.i
  have hb := be_oct (hdWd i).toNat n
  have := wd_le i
  exact (Oct.app (n := 1) (a := [m * 32 + i]) ⟨Nat.le_refl _, fun o ho => by
    rw [List.mem_singleton.mp ho]
    omega⟩ (hb.mono this)).mono (by omega)
theorem enc1_oct {c : Int} (h : Point c) : ∀ o ∈ enc1 c, 0 ≤ o ∧ o ≤ 255 := by
  obtain ⟨h0, h1, h2⟩ := h
  intro o ho
  unfold enc1 at ho
  split at ho
  · simp at ho
    omega
  split at ho
  · simp at ho
    omega
  split at ho
  · simp at ho
    omega
  · simp at ho
    omega
theorem keep_r {S : SC} {H H1 H2 : Hp} (k : Keep S H H1) (s : Same H1 H2) : Keep S H H2 := k.trans (Keep.of s)
/-- list + list -/
theorem r_catB {a b : Addr} {xs ys : List Int} {H : Hp} {Q : VK} (h1 : H a = some (.lst (xs.map V.int))) (h2 : H b = some (.lst (ys.map V.int))) (hl : xs.length + ys.length ≤ 16700000) (h : ∀ p H', H p = none → H' p = some (.lst ((xs ++ ys).map V.int)) → Same H H' → Q (.ref p) H') : rCat (.ref a) (.ref b) H Q :=
  ⟨a, b, _, _, rfl, rfl, h1, h2, Nat.le_trans (by rw [List.length_map, List.length_map]; exact hl) (by decide : 16700000 ≤ sizeLine), fun p hp => h p _ hp (by rw [upd_same, cat_ints]) (same_upd hp _)⟩
theorem r_lc3 {σ : St} {H : Hp} {Q : VK} {ta : TA} {g : TG} {tt : TT} {te : TE} {vs : List Nat} (h : ta σ H fun ws H1 => ∃ (i j c : Int) (n : Nat), ws = [.int i, .int j, .int c] ∧ RgC i j c n ∧ ∀ D, H1 D = none → ∃ W : Nat → Nat → Hp → Prop, (∃ m, W 0 m (upd H1 D (.lst []))) ∧ ∀ i' m H, W i' m H →
  ((Itc i c n).stop i' H ∧ Q (.ref D) H) ∨ ((Itc i c n).go i' H ∧ ∃ Nx : Hp → Prop, (∀ H', Nx H' → ∃ m', m' < m ∧ W (i' + 1) m' H') ∧ ∀ x H', (Itc i c n).yld i' H x H' → g x (wipe σ vs) H' fun σ2 H2 => wipe σ2 vs = wipe σ vs ∧ tt σ2 H2 fun b H3 =>
    if b = true then te σ2 H3 fun y H4 => ∃ acc, H4 D = some (.lst acc) ∧ acc.length < sizeLine ∧ Nx (upd H4 D (.lst (acc ++ [y]))) else Nx H3)) : tLc (iRng3 ta) g tt te vs σ H Q := h
theorem lc_rangeC {lo c : Int} {n : Nat} {g : TG} {te : TE} {vs : List Nat} {σ : St} {H1 : Hp} {D : Addr} {Qd : Hp → Prop} (Pv : Nat → Hp → Prop) (h0 : Pv 0 (upd H1 D (.lst [])))
    (hs : ∀ i H, i < n → Pv i H → g (.int (lo + (i : Nat) * c)) (wipe σ vs) H fun σ2 H2 => wipe σ2 vs = wipe σ vs ∧ te σ2 H2 fun y H4 => ∃ acc, H4 D = some (.lst acc) ∧ acc.length < sizeLine ∧ Pv (i + 1) (upd H4 D (.lst (acc ++ [y])))) (hd : ∀ H, Pv n H → Qd H) :
    ∃ W : Nat → Nat → Hp → Prop, (∃ m, W 0 m (upd H1 D (.lst []))) ∧ ∀ i m H, W i m H →
      ((Itc lo c n).stop i H ∧ Qd H) ∨ ((Itc lo c n).go i H ∧ ∃ Nx : Hp → Prop, (∀ H', Nx H' → ∃ m', m' < m ∧ W (i + 1) m' H') ∧ ∀ x H', (Itc lo c n).yld i H x H' → g x (wipe σ vs) H' fun σ2 H2 => wipe σ2 vs = wipe σ vs ∧ tYes σ2 H2 fun b H3 =>
        if b = true then te σ2 H3 fun y H4 => ∃ acc, H4 D = some (.lst acc) ∧ acc.length < sizeLine ∧ Nx (upd H4 D (.lst (acc ++ [y]))) else Nx H3) := by
  refine ⟨fun i m H => m + i = n ∧ Pv i H, ⟨n, rfl, h0⟩, ?_⟩
  rintro i m H ⟨hm, p⟩
  by_cases hlt : i < n
  · refine .inr ⟨hlt, fun H' => Pv (i + 1) H', fun H' q => ⟨m - 1, by omega, by omega, q⟩, ?_⟩
    rintro _ _ ⟨rfl, rfl⟩
    exact hs i _ hlt p
  · have : i = n := by omega
    subst this
    exact .inl ⟨Nat.le_refl _, hd H p⟩
theorem rgM (k : Nat) (hk : k ≤ 2000) : RgC (8 * (k : Int) - 8) (-1) (-8) k := by
  have e : Builtin.Range.rangeSize (8 * (k : Int) - 8) (-1) (-8) = ((k : Nat) : Int) := by
    unfold Builtin.Range.rangeSize
    rw [if_neg (by omega)]
    by_cases z : k = 0
    · subst z
      rfl
    · rw [if_pos (by omega)]
      have e1 : (8 * (k : Int) - 8) - (-1) - 1 = 8 * ((k : Int) - 1) := by omega
      rw [e1, show (-(-8 : Int)) = 8 from rfl]
      first | omega | (rw [Int.fdiv_eq_ediv_of_nonneg _ (by decide)]; omega)
  have hs : Builtin.Range.small (8 * (k : Int) - 8) (-1) (-8) = true := by
    unfold Builtin.Range.small
    rw [e, ffl (by omega) (by omega), ffl (by decide) (by decide), ffl (by decide) (by decide), ffl (by omega) (by omega)]
    split
    · rw [ffl (by omega) (by omega)]
      simp
    · rw [ffl (by omega) (by omega)]
      simp
  exact ⟨by decide, by decide, hs, e⟩
theorem r_bits {to : TE} {σ : St} {H : Hp} {Q : VK} (h : to σ H fun x H1 => ∃ i, x = .int i ∧ Q (.int (Builtin.Int.intBits i : Nat)) H1) : tBits to σ H Q := h
theorem bits_lt {x : Int} {m : Nat} : Builtin.Int.intBits x ≤ m ↔ x.natAbs < 2 ^ m := intBits_le_iff
theorem be_get (n : Int) : ∀ (k j : Nat), j < k → (be k n)[j]? = some (n / 256 ^ (k - 1 - j) % 256)
  | 0, _, h => absurd h (Nat.not_lt_zero _)
  | k + 1, 0, _ => by
    rw [be_left]
    rfl
  | k + 1, j + 1, h => by
    rw [be_left, List.singleton_append, List.getElem?_cons_succ, be_get n k j (by omega)]
    rw [show k + 1 - 1 - (j + 1) = k - 1 - j by omega]
theorem be_step {n : Int} {k i : Nat} (h : i < k) : (be k n).take (i + 1) = (be k n).take i ++ [n / 2 ^ (8 * (k - 1 - i)) % 256] := by
  rw [List.take_succ, be_get n k i h, Int.pow_mul]
  rfl
/-- the info of the shortest head -/
def shI (n : Int) : Int := if n < 24 then n else if n < 256 then 24 else if n < 65536 then 25 else if n < 4294967296 then 26 else 27
def shH (m n : Int) : List Int := headI m (shI n) n
theorem shI_fit {n : Int} (h0 : 0 ≤ n) (h1 : n < 18446744073709551616) : HdFit (shI n) n := by
  unfold shI
  split
  · exact .inl ⟨h0, by assumption, rfl⟩
  · split
    · exact .inr ⟨by decide, by decide, h0, by assumption⟩
    · split
      · exact .inr ⟨by decide, by decide, h0, by assumption⟩
      · split
        · exact .inr ⟨by decide, by decide, h0, by assumption⟩
        · exact .inr ⟨by decide, by decide, h0, h1⟩
theorem shH_low {m n : Int} (h : n < 24) : shH m n = [m * 32 + n] := by
  unfold shH headI
  rw [show shI n = n from if_pos h, wd_low h]
  rfl
theorem shH_len (m n : Int) : (shH m n).length ≤ 9 := by
  unfold shH headI
  have := wd_le (shI n)
  rw [List.length_cons, be_len]
  omega
/-- as few octets as can be -/
def fewK (n : Int) : Nat := (Builtin.Int.intBits n + 7) / 8
def few (n : Int) : List Int := be (fewK n) n
theorem few_le {n : Int} {k : Nat} (h0 : 0 ≤ n) : fewK n ≤ k ↔ n < 256 ^ k := by
  have e : fewK n ≤ k ↔ Builtin.Int.intBits n ≤ 8 * k := by
    unfold fewK
    omega
  rw [e, bits_lt, Nat.pow_mul]
  have e2 : ((256 ^ k : Nat) : Int) = (256 : Int) ^ k := Int.natCast_pow 256 k
  rw [← e2]
  show n.natAbs < 256 ^ k ↔ _
  omega
theorem few_worth {n : Int} (h0 : 0 ≤ n) : worthO (few n) = n := by
  have e := fold_be (fewK n) 0 n h0 ((few_le h0).mp (Nat.le_refl _))
  rw [Int.zero_mul, Int.zero_add] at e
  exact e
theorem few_len (n : Int) : (few n).length = fewK n := be_len _ _
/-- an integer's octets -/
def intO (z : Int) : List Int :=
  if (if z < 0 then -1 - z else z) < 18446744073709551616 then shH (if z < 0 then 1 else 0) (if z < 0 then -1 - z else z)
  else shH 6 (if z < 0 then 3 else 2) ++ shH 2 ((few (if z < 0 then -1 - z else z)).length : Nat) ++ few (if z < 0 then -1 - z else z)
/-- a number's -/
def numO (m e : Int) : List Int := if 0 ≤ e ∧ e ≤ 64 then intO (m * 10 ^ e.toNat) else shH 6 4 ++ shH 4 2 ++ intO e ++ intO m
def txtO (ps : List Int) : List Int := shH 3 ((encs ps).length : Nat) ++ encs ps
def unI : PyData → Int
  | .int i => i
  | _ => 0
theorem unI_map (os : List Int) : (os.map PyData.int).map unI = os := by
  rw [List.map_map, show (unI ∘ PyData.int) = id from rfl, List.map_id]
/-- the octets of a leaf -/
def lfO (k : Str) (r : List PyData) : List Int :=
  match r with
  | [.int m, .int e] => numO m e
  | [.bool b] => [244 + if b = true then 1 else 0]
  | [.tuple xs] => if k = "bytes" then shH 2 (xs.length : Nat) ++ xs.map unI else txtO (xs.map unI)
  | _ => [246]
theorem lfO_bytes (os : List Int) : lfO "bytes" [kd os] = shH 2 (os.length : Nat) ++ os := by
  show (if ("bytes" : Str) = "bytes" then shH 2 ((os.map PyData.int).length : Nat) ++ (os.map PyData.int).map unI else txtO ((os.map PyData.int).map unI)) = _
  rw [if_pos rfl, unI_map, List.length_map]
theorem lfO_text (os : List Int) : lfO "text" [kd os] = txtO os := by
  show (if ("text" : Str) = "bytes" then shH 2 ((os.map PyData.int).length : Nat) ++ (os.map PyData.int).map unI else txtO ((os.map PyData.int).map unI)) = _
  rw [if_neg (by decide +kernel), unI_map]

/-! ### tuples of the heap -/
def TupK (K : Frg) (H : Hp) (p : Addr) (xs : List V) : Prop := H p = some (.tup xs)
theorem TupK.sq {K : Frg} {H : Hp} {p : Addr} {xs : List V} (h : TupK K H p xs) : SqT K H p xs := SqT.of h
theorem TupK.same {K : Frg} {H H' : Hp} {p : Addr} {xs : List V} (h : TupK K H p xs) (s : Same H H') : TupK K H' p xs := s _ _ h
/-! ### the octets of a leaf, of a key -/







def sp_wide (K : Frg) : Sp := sp2 fun a b H Q _ => ∃ (n : Int) (k : Nat), a = .int n ∧ b = .int (k : Int) ∧ k ≤ 2000 ∧ Out H (be k n) Q
def sp_shortest (K : Frg) : Sp := sp1 fun a H Q _ => ∃ n : Int, a = .int n ∧ fewK n ≤ 2000 ∧ Out H (few n) Q
def sp_shortest_head (K : Frg) : Sp := sp2 fun a b H Q _ => ∃ m n : Int, a = .int m ∧ b = .int n ∧ 0 ≤ n ∧ n < 18446744073709551616 ∧ Out H (shH m n) Q
def sp__integer_octets (K : Frg) : Sp := sp1 fun a H Q _ => ∃ z : Int, a = .int z ∧ z.natAbs < 256 ^ 840 ∧ Out H (intO z) Q
def sp__number_octets (K : Frg) : Sp := sp2 fun a b H Q _ => ∃ m e : Int, a = .int m ∧ b = .int e ∧ m.natAbs < 10 ^ 1950 ∧ -1000000000 ≤ e ∧ e ≤ 1000000000 ∧ Out H (numO m e) Q
/-- leaves that CBOR has -/
inductive Lb : Str → List PyData → Prop
  | number (m e : Int) (h : m.natAbs < 10 ^ 1950) (h0 : -1000000000 ≤ e) (h1 : e ≤ 1000000000) : Lb "number" [.int m, .int e]
  | bytes (os : List Int) (h : os.length ≤ 300) : Lb "bytes" [kd os]
  | text (ps : List Int) (h : ps.length ≤ 200) (hp : ∀ c ∈ ps, Point c) : Lb "text" [kd ps]
  | truth (b : Bool) : Lb "truth" [.bool b]
  | null : Lb "null" []
def sp_leaf_octets (K : Frg) : Sp := sp1 fun a H Q _ => ∃ (p : Addr) (k : Str) (xs : List V) (r : List PyData), a = .ref p ∧ TupK K H p (.str k :: xs) ∧ TpAll H xs r ∧ Lb k r ∧ Out H (lfO k r) Q
theorem tpI2 {H : Hp} {ws : List V} {m e : Int} (hw : TpAll H ws [.int m, .int e]) : ws = [.int m, .int e] := by
  cases hw with
  | cons h1 h2 =>
    cases h1
    cases h2 with
    | cons h1 h2 =>
      cases h1
      cases h2
      rfl
theorem tpT1 {H : Hp} {ws : List V} {os : List Int} (hw : TpAll H ws [kd os]) : ∃ t0, ws = [.ref t0] ∧ H t0 = some (.tup (os.map V.int)) := by
  cases hw with
  | cons h1 h2 =>
    cases h2
    obtain ⟨t0, rfl, ht⟩ := tp_kdB h1
    exact ⟨t0, rfl, ht⟩
def sp_key_octets (K : Frg) : Sp := sp1 fun a H Q _ => ∃ (p : Addr) (ps : List Int), a = .ref p ∧ H p = some (.tup (ps.map V.int)) ∧ ps.length ≤ 200 ∧ (∀ c ∈ ps, Point c) ∧ Out H (txtO ps) Q
theorem ten_le : (10 : Nat) ^ 2016 ≤ 256 ^ 840 := by
  rw [show (256 : Nat) = 2 ^ 8 from rfl, ← Nat.pow_mul, show (2016 : Nat) = 3 * 672 from rfl, Nat.pow_mul]
  exact Nat.le_trans (Nat.pow_le_pow_left (by decide : 10 ^ 3 ≤ 2 ^ 10) 672) (by rw [← Nat.pow_mul]; exact Nat.pow_le_pow_right (by decide) (by decide))
theorem b444 : 10 ^ (1950 + 64) ≤ 256 ^ 840 := Nat.le_trans (pow10_le (by decide)) ten_le
theorem intO_few {z : Int} (hz : z.natAbs < 256 ^ 840) : 0 ≤ (if z < 0 then -1 - z else z) ∧ fewK (if z < 0 then -1 - z else z) ≤ 840 := by
  have n0 : 0 ≤ (if z < 0 then -1 - z else z) := by split <;> omega
  refine ⟨n0, (few_le n0).mpr ?_⟩
  have e : ((256 ^ 840 : Nat) : Int) = (256 : Int) ^ 840 := Int.natCast_pow 256 840
  rw [← e]
  generalize (256 ^ 840 : Nat) = B at hz
  split <;> omega
theorem intO_len {z : Int} (hz : z.natAbs < 256 ^ 840) : (intO z).length ≤ 860 := by
  have fk := (intO_few hz).2
  unfold intO
  generalize (if z < 0 then -1 - z else z) = n at fk
  split
  · have := shH_len (if z < 0 then 1 else 0) n
    omega
  · have l1 := shH_len 6 (if z < 0 then 3 else 2)
    have l2 := shH_len 2 ((few n).length : Nat)
    rw [List.length_append, List.length_append, few_len] at *
    omega
theorem Out.same {H H1 : Hp} {xs : List Int} {Q : VK} (h : Out H xs Q) (s : Same H H1) : Out H1 xs Q := fun p H' n g s' => h p H' (s.free n) g (s.trans s')
theorem sh_val {info : Int} (h0 : 24 ≤ info) (h1 : info ≤ 27) : valV (([.inl 24, .inl 25, .inl 26, .inl 27] : List Key).zip [.int 1, .int 2, .int 4, .int 8]) (.inl info) = some (.int (hdWd info)) := by
  rcases (show info = 24 ∨ info = 25 ∨ info = 26 ∨ info = 27 by omega) with rfl | rfl | rfl | rfl <;> rfl
/-- what is left of a number behind the octets of a width is nothing: it fits -/
theorem sh_more {n : Int} (h1 : n < 18446744073709551616) {info : Int} (h : 24 ≤ info) (h7 : info ≤ 27) (c : 0 < n / 2 ^ (8 * hdWd info).toNat) : info < 27 ∧ (info = 24 → 256 ≤ n) ∧ (info = 25 → 65536 ≤ n) ∧ (info = 26 → 4294967296 ≤ n) := by
  rcases (show info = 24 ∨ info = 25 ∨ info = 26 ∨ info = 27 by omega) with rfl | rfl | rfl | rfl
  · have c : 0 < n / 256 := c
    exact ⟨by decide, fun _ => by omega, fun z => absurd z (by decide), fun z => absurd z (by decide)⟩
  · have c : 0 < n / 65536 := c
    exact ⟨by decide, fun z => absurd z (by decide), fun _ => by omega, fun z => absurd z (by decide)⟩
  · have c : 0 < n / 4294967296 := c
    exact ⟨by decide, fun z => absurd z (by decide), fun z => absurd z (by decide), fun _ => by omega⟩
  · have c : 0 < n / 18446744073709551616 := c
    omega
theorem sh_done {n : Int} (h0 : ¬ n < 24) {info : Int} (h : 24 ≤ info) (h7 : info ≤ 27) (j1 : 24 < info → 256 ≤ n) (j2 : 25 < info → 65536 ≤ n) (j3 : 26 < info → 4294967296 ≤ n) (c : ¬ 0 < n / 2 ^ (8 * hdWd info).toNat) : info = shI n := by
  unfold shI
  rw [if_neg h0]
  rcases (show info = 24 ∨ info = 25 ∨ info = 26 ∨ info = 27 by omega) with rfl | rfl | rfl | rfl
  · have c : ¬ 0 < n / 256 := c
    rw [if_pos (by omega)]
  · have c : ¬ 0 < n / 65536 := c
    rw [if_neg (by omega), if_pos (by omega)]
  · have c : ¬ 0 < n / 4294967296 := c
    rw [if_neg (by omega), if_neg (by omega), if_pos (by omega)]
  · rw [if_neg (by omega), if_neg (by omega), if_neg (by omega)]
section
variable {P : Program} {w : World} {K : PySem.W.Frag} {mg : Str → Option Value} {base : Heap} {f : Addr} {fd : FuncData}
theorem ok_wide (F : FunD K "wide" "wide" (defArgs s_wide) (defBody s_wide) (defScope s_wide) [] [] (glAd "wide" K) fd) (m : mg "wide" = some (.ref (glAd "wide" K))) (nb : Nm w K mg) : Cal P w K mg base 1 "wide" (sp_wide K) [] := by
  refine calD F m sc_wide (fun _ _ _ _ _ _ us hl => match us, hl with | [_, _], _ => rfl) len2 (fun cdv A outer s H vs Q E hr h => ⟨_, (pss_one (ps_ret (pe_lc (own := [("shift", 2)]) (g := gName 2) (tt := tYes) rfl sc_wide.nd (pi_range3 rfl nb.range (pa_cons (pe_op op_sub (pe_op op_mul pe_int (pv 1)) pe_int) (pa_cons (pe_un un_neg pe_int) (pa_cons (pe_un un_neg pe_int) pa_nil)))) (blkOk_by (N := ["n", "many", "shift"]) (sc := defScope s_wide) (by decide +kernel)) (fun _ _ _ _ _ => pg_name (i := 2) sc_wide.nd rfl (Or.inl rfl)) (fun _ _ _ _ _ => pts_nil) (fun _ _ _ _ _ => (pe_op op_andM (pe_op op_shr (pv 0) (pv 2)) pe_int))))), ?_⟩)
  obtain ⟨_, _, rfl, n, k, rfl, rfl, hk, h⟩ := h
  walk_at "rd"
  refine r_lc3 ?_
  walk_at "rd"
  refine ⟨_, _, _, k, rfl, rgM k hk, fun D hD => lc_rangeC (fun i H' => H' D = some (.lst (((be k n).take i).map V.int)) ∧ ∀ b u, b ≠ D → H b = some u → H' b = some u) ⟨upd_same, fun b u n z => (upd_ne n).trans z⟩ ?_ ?_⟩
  · rintro i H' hi ⟨g1, g2⟩
    walk_at "rd"
    refine ⟨rfl, ?_⟩
    walk_at "rd"
    refine r_I (C := fun _ j => 0 ≤ j) (show 0 ≤ 8 * (k : Int) - 8 + (i : Int) * -8 by omega) ?_
    walk_at "rd"
    refine ⟨_, 8, rfl, rfl, _, g1, small4k (by rw [List.length_map, List.length_take, be_len]; omega), ?_, fun b u m z => (upd_ne m).trans (g2 b u m z)⟩
    rw [upd_same, be_step hi, ← map_snoc, show (8 * (k : Int) - 8 + (i : Int) * -8).toNat = 8 * (k - 1 - i) by omega]
    rfl
  · rintro H' ⟨g1, g2⟩
    rw [List.take_of_length_le (Nat.le_of_eq (be_len k n))] at g1
    exact h D H' hD g1 fun b u z => g2 b u (fun e => by rw [e, hD] at z; cases z) z
theorem ok_shortest (F : FunD K "shortest" "shortest" (defArgs s_shortest) (defBody s_shortest) (defScope s_shortest) [] [] (glAd "shortest" K) fd) (m : mg "shortest" = some (.ref (glAd "shortest" K))) (nb : Nm w K mg) (c_wide : Cal P w K mg base 1 "wide" (sp_wide K) []) : Cal P w K mg base 2 "shortest" (sp_shortest K) [] := by
  refine calD F m sc_shortest (fun _ _ _ _ _ _ us hl => match us, hl with | [_], _ => rfl) len1 (fun cdv A outer s H vs Q E hr h => ⟨_, (pss_one (ps_ret (pe_c c_wide hr (by decide) rfl (pa_cons (pv 0) (pa_cons (pe_op op_fdiv (pe_op op_add (pe_bits (pv 0)) pe_int) pe_int) pa_nil))))), ?_⟩)
  obtain ⟨_, rfl, n, rfl, h1, h⟩ := h
  walk_at "rd"
  refine ⟨_, rfl, ?_⟩
  refine ⟨_, rfl, ?_⟩
  walk_at "rd"
  exact ⟨_, _, rfl, n, fewK n, rfl, congrArg V.int (by unfold fewK; omega), h1, h⟩
theorem ok_shortest_head (F : FunD K "shortest_head" "shortest_head" (defArgs s_shortest_head) (defBody s_shortest_head) (defScope s_shortest_head) [] [] (glAd "shortest_head" K) fd) (m : mg "shortest_head" = some (.ref (glAd "shortest_head" K))) (nb : Nm w K mg) (c_wide : Cal P w K mg base 1 "wide" (sp_wide K) []) : Cal P w K mg base 2 "shortest_head" (sp_shortest_head K) [] := by
  obtain ⟨v_WIDTHS, u_WIDTHS, e_WIDTHS, r_WIDTHS, k_WIDTHS⟩ := nb.g_WIDTHS
  refine calD F m sc_shortest_head (fun _ _ _ _ _ _ us hl => match us, hl with | [_, _], _ => rfl) len2 (fun cdv A outer s H vs Q E hr h => ⟨_, (pss_cons (ps_if (pt_cmpR op_lt (pv 1) pe_int (nomark _))
    (pss_one (ps_ret (pe_lstE (pa_cons (pe_op op_add (pe_op op_mul (pv 0) pe_int) (pv 1)) pa_nil))))
    pss_nil)
    (pss_cons (ps_set (i := 2) sc_shortest_head.nd rfl (Or.inl rfl) pe_int)
    (pss_cons (ps_while PassesOwn.never (pt_cmpR op_gt (pe_op op_shr (pv 1) (pe_op op_mul pe_int (pe_kix (pe_gc rfl ⟨u_WIDTHS, e_WIDTHS, r_WIDTHS⟩) (pv 2) (fun _ _ => rfl)))) pe_int (nomark _))
    (pss_one (ps_set (i := 2) sc_shortest_head.nd rfl (Or.inl rfl) (pe_op op_add (pv 2) pe_int))))
    (pss_one (ps_ret (pe_op op_cat (pe_lstE (pa_cons (pe_op op_add (pe_op op_mul (pv 0) pe_int) (pv 2)) pa_nil)) (pe_c c_wide hr (by decide) rfl (pa_cons (pv 1) (pa_cons (pe_kix (pe_gc rfl ⟨u_WIDTHS, e_WIDTHS, r_WIDTHS⟩) (pv 2) (fun _ _ => rfl)) pa_nil))))))))), ?_⟩)
  obtain ⟨_, _, rfl, m, n, rfl, rfl, h0, h1, h⟩ := h
  obtain ⟨ta, et, tt⟩ := k_WIDTHS
  subst et
  walk_at "rf"
  refine r_ite (fun c => ?_) (fun c => ?_)
  · rw [shH_low c] at h
    walk_at "rf"
    exact ⟨by show 1 ≤ sizeLine; decide, h⟩
  walk_at "rf"
  refine r_while (fun k σ H' => H = H' ∧ ∃ info : Int, 24 ≤ info ∧ info ≤ 27 ∧ k = (28 - info).toNat ∧ (24 < info → 256 ≤ n) ∧ (25 < info → 65536 ≤ n) ∧ (26 < info → 4294967296 ≤ n) ∧ σ = [some (.int m), some (.int n), some (.int info)]) 4 ⟨rfl, 24, by decide, by decide, rfl, fun z => absurd z (by decide), fun z => absurd z (by decide), fun z => absurd z (by decide), rfl⟩ ?_
  rintro k σ _ ⟨rfl, info, i0, i1, ek, j1, j2, j3, rfl⟩
  walk_at "rf"
  refine ⟨.int info, rfl, ta, _, .inl info, .int (hdWd info), rfl, tt, rfl, sh_val i0 i1, ?_⟩
  have wn := hdWd_nn info
  walk_at "rf"
  refine r_I (show 0 ≤ 8 * hdWd info by omega) ?_
  walk_at "rf"
  refine r_ite (fun c2 => ?_) (fun c2 => ?_)
  · obtain ⟨q1, q2, q3, q4⟩ := sh_more h1 i0 i1 c2
    refine r_turn ?_
    walk_at "rf"
    exact ⟨(28 - (info + 1)).toNat, by omega, rfl, info + 1, by omega, by omega, rfl, fun z => by omega, fun z => by omega, fun z => by omega, rfl⟩
  · have ei := sh_done c i0 i1 j1 j2 j3 c2
    walk_at "rf"
    refine ⟨by show 1 ≤ sizeLine; decide, fun p1 H1 n1 g1 s1 => ?_⟩
    have g1 : H1 p1 = some (.lst (([m * 32 + info] : List Int).map V.int)) := g1
    walk_at "rf"
    refine ⟨.int info, rfl, ta, _, .inl info, .int (hdWd info), rfl, tt, rfl, sh_val i0 i1, ?_⟩
    have wl := wd_le info
    walk_at "rf"
    refine ⟨_, _, rfl, n, (hdWd info).toNat, rfl, congrArg V.int (by omega), by omega, fun p2 H2 n2 g2 s2 => ?_⟩
    refine r_catB (s2 _ _ g1) g2 (by rw [be_len]; show 1 + _ ≤ _; omega) fun p3 H3 n3 g3 s3 => ?_
    refine h p3 H3 ((s1.trans s2).free n3) ?_ ((s1.trans s2).trans s3)
    rw [g3]
    unfold shH headI
    rw [← ei]
    rfl
theorem ok__integer_octets (F : FunD K "_integer_octets" "_integer_octets" (defArgs s__integer_octets) (defBody s__integer_octets) (defScope s__integer_octets) [] [] (glAd "_integer_octets" K) fd) (m : mg "_integer_octets" = some (.ref (glAd "_integer_octets" K))) (nb : Nm w K mg) (c_shortest : Cal P w K mg base 2 "shortest" (sp_shortest K) []) (c_shortest_head : Cal P w K mg base 2 "shortest_head" (sp_shortest_head K) []) : Cal P w K mg base 3 "_integer_octets" (sp__integer_octets K) [] := by
  refine calD F m sc__integer_octets (fun _ _ _ _ _ _ us hl => match us, hl with | [_], _ => rfl) len1 (fun cdv A outer s H vs Q E hr h => ⟨_, (pss_cons (ps_set (i := 1) sc__integer_octets.nd rfl (Or.inl rfl) (pe_cmpR op_lt (pv 0) pe_int (nomark _)))
    (pss_cons (ps_set (i := 2) sc__integer_octets.nd rfl (Or.inl rfl) (pe_ifExp (pt_val (pv 1)) (pe_op op_sub (pe_un un_neg pe_int) (pv 0)) (pv 0)))
    (pss_cons (ps_if (pt_cmpR op_lt (pv 2) (pe_gc rfl nb.g_FIRST_LARGE) (nomark _))
    (pss_one (ps_ret (pe_c c_shortest_head hr (by decide) rfl (pa_cons (pe_ifExp (pt_val (pv 1)) (pe_gc rfl nb.g_NEGATIVE) (pe_gc rfl nb.g_POSITIVE)) (pa_cons (pv 2) pa_nil)))))
    pss_nil)
    (pss_cons (ps_set (i := 3) sc__integer_octets.nd rfl (Or.inl rfl) (pe_c c_shortest hr (by decide) rfl (pa_cons (pv 2) pa_nil)))
    (pss_cons (ps_set (i := 4) sc__integer_octets.nd rfl (Or.inl rfl) (pe_c c_shortest_head hr (by decide) rfl (pa_cons (pe_gc rfl nb.g_TAG) (pa_cons (pe_ifExp (pt_val (pv 1)) (pe_gc rfl nb.g_NEGATIVE_TAG) (pe_gc rfl nb.g_POSITIVE_TAG)) pa_nil))))
    (pss_one (ps_ret (pe_op op_cat (pe_op op_cat (pv 4) (pe_c c_shortest_head hr (by decide) rfl (pa_cons (pe_gc rfl nb.g_BYTES) (pa_cons (pe_callB call_len_seq (by rfl) nb.len PySem.boot_len (pa_cons (pv 3) pa_nil)) pa_nil)))) (pv 3))))))))), ?_⟩)
  obtain ⟨_, rfl, z, rfl, hz, h⟩ := h
  walk_at "rf"
  refine r_iteJ (.int (if z < 0 then -1 - z else z)) (fun c R hR => ?_) (fun c R hR => ?_) ?_
  · rw [if_pos c] at hR
    walk_at "rf"
    exact hR
  · rw [if_neg c] at hR
    walk_at "rf"
    exact hR
  obtain ⟨n0, fk⟩ := intO_few hz
  unfold intO at h
  generalize hn : (if z < 0 then -1 - z else z) = n at h n0 fk ⊢
  clear hn
  walk_at "rf"
  refine r_ite (fun c => ?_) (fun c => ?_)
  · rw [if_pos c] at h
    walk_at "rf"
    refine r_iteJ (.int (if z < 0 then 1 else 0)) (fun c R hR => ?_) (fun c R hR => ?_) ?_
    · rw [if_pos c] at hR
      walk_at "rf"
      exact hR
    · rw [if_neg c] at hR
      walk_at "rf"
      exact hR
    walk_at "rf"
    exact ⟨_, _, rfl, _, n, rfl, rfl, n0, c, h⟩
  · rw [if_neg c] at h
    walk_at "rf"
    refine ⟨_, rfl, n, rfl, by omega, fun p H1 np gp s1 => ?_⟩
    walk_at "rf"
    refine r_iteJ (.int (if z < 0 then 3 else 2)) (fun c R hR => ?_) (fun c R hR => ?_) ?_
    · rw [if_pos c] at hR
      walk_at "rf"
      exact hR
    · rw [if_neg c] at hR
      walk_at "rf"
      exact hR
    walk_at "rf"
    refine ⟨_, _, rfl, 6, (if z < 0 then 3 else 2), rfl, rfl, by split <;> decide, by split <;> decide, fun p2 H2 n2 g2 s2 => ?_⟩
    walk_at "rf"
    refine ⟨p, _, rfl, .inl (SqL.of (s2 _ _ gp)), ?_⟩
    rw [List.length_map]
    have fl := few_len n
    walk_at "rf"
    refine ⟨_, _, rfl, 2, ((few n).length : Nat), rfl, rfl, by omega, by omega, fun p3 H3 n3 g3 s3 => ?_⟩
    have l1 := shH_len 6 (if z < 0 then 3 else 2)
    have l2 := shH_len 2 ((few n).length : Nat)
    refine r_catB (s3 _ _ g2) g3 (by omega) fun p4 H4 n4 g4 s4 => ?_
    walk_at "rf"
    have s24 := (s2.trans s3).trans s4
    refine r_catB g4 (s24 _ _ gp) (by rw [List.length_append]; omega) fun p5 H5 n5 g5 s5 => ?_
    exact h p5 H5 ((s1.trans s24).free n5) g5 ((s1.trans s24).trans s5)
theorem ok__number_octets (F : FunD K "_number_octets" "_number_octets" (defArgs s__number_octets) (defBody s__number_octets) (defScope s__number_octets) [] [] (glAd "_number_octets" K) fd) (m : mg "_number_octets" = some (.ref (glAd "_number_octets" K))) (nb : Nm w K mg) (c_shortest_head : Cal P w K mg base 2 "shortest_head" (sp_shortest_head K) []) (c_whole : Cal P w K mg base 2 "whole" sp_whole []) (c__integer_octets : Cal P w K mg base 3 "_integer_octets" (sp__integer_octets K) []) : Cal P w K mg base 4 "_number_octets" (sp__number_octets K) [] := by
  refine calD F m sc__number_octets (fun _ _ _ _ _ _ us hl => match us, hl with | [_, _], _ => rfl) len2 (fun cdv A outer s H vs Q E hr h => ⟨_, (pss_cons (ps_set (i := 2) sc__number_octets.nd rfl (Or.inl rfl) (pe_c c_whole hr (by decide) rfl (pa_cons (pv 0) (pa_cons (pv 1) (pa_cons (pe_gc rfl nb.g_LARGEST_SCALE) pa_nil)))))
    (pss_cons (ps_if (pt_cmpR op_notN (pv 2) pe_non (nomark _))
    (pss_one (ps_ret (pe_c c__integer_octets hr (by decide) rfl (pa_cons (pv 2) pa_nil))))
    pss_nil)
    (pss_one (ps_ret (pe_op op_cat (pe_op op_cat (pe_op op_cat (pe_c c_shortest_head hr (by decide) rfl (pa_cons (pe_gc rfl nb.g_TAG) (pa_cons (pe_gc rfl nb.g_DECIMAL_TAG) pa_nil))) (pe_c c_shortest_head hr (by decide) rfl (pa_cons (pe_gc rfl nb.g_LIST) (pa_cons pe_int pa_nil)))) (pe_c c__integer_octets hr (by decide) rfl (pa_cons (pv 1) pa_nil))) (pe_c c__integer_octets hr (by decide) rfl (pa_cons (pv 0) pa_nil))))))), ?_⟩)
  obtain ⟨_, _, rfl, m, e, rfl, rfl, hm, e0, e1, h⟩ := h
  walk_at "rf"
  have hb : m.natAbs < 2 ^ 1000000 := Nat.lt_of_lt_of_le hm (Nat.le_trans (Nat.pow_le_pow_left (by decide : 10 ≤ 2 ^ 4) 1950) (by rw [← Nat.pow_mul]; exact Nat.pow_le_pow_right (by decide) (by decide)))
  refine ⟨_, _, _, rfl, m, e, 64, rfl, rfl, rfl, by decide, hb, fun c => ?_, fun c => ?_⟩
  · walk_at "rf"
    rw [if_pos (by rw [decide_eq_false (fun z => V.noConfusion z)]; rfl)]
    have ec : numO m e = intO (m * 10 ^ e.toNat) := if_pos c
    rw [ec] at h
    walk_at "rf"
    refine ⟨_, rfl, _, rfl, ?_, h⟩
    rw [Int.natAbs_mul, natAbs10]
    refine Nat.lt_of_lt_of_le (Nat.mul_lt_mul_of_lt_of_le hm (pow10_le (a := e.toNat) (b := 64) (by omega)) (Nat.pow_pos (by decide))) ?_
    rw [← Nat.pow_add]
    exact b444
  · walk_at "rf"
    rw [if_neg (by rw [decide_eq_true rfl]; decide)]
    have ec : numO m e = shH 6 4 ++ shH 4 2 ++ intO e ++ intO m := if_neg c
    rw [ec] at h
    walk_at "rf"
    refine ⟨_, _, rfl, 6, 4, rfl, rfl, by decide, by decide, fun p1 H1 n1 g1 s1 => ?_⟩
    walk_at "rf"
    refine ⟨_, _, rfl, 4, 2, rfl, rfl, by decide, by decide, fun p2 H2 n2 g2 s2 => ?_⟩
    refine r_catB (s2 _ _ g1) g2 (by decide) fun p3 H3 n3 g3 s3 => ?_
    walk_at "rf"
    refine ⟨_, rfl, e, rfl, ?_, fun p4 H4 n4 g4 s4 => ?_⟩
    · exact Nat.lt_of_lt_of_le (show e.natAbs < 10 ^ 10 by omega) (Nat.le_trans (pow10_le (by decide)) b444)
    have le := intO_len (z := e) (Nat.lt_of_lt_of_le (show e.natAbs < 10 ^ 10 by omega) (Nat.le_trans (pow10_le (by decide)) b444))
    have hm4 := Nat.lt_of_lt_of_le hm (Nat.le_trans (pow10_le (by decide)) b444)
    have lm := intO_len hm4
    have l3 : (shH 6 4 ++ shH 4 2).length = 2 := by decide
    refine r_catB (s4 _ _ g3) g4 (by omega) fun p5 H5 n5 g5 s5 => ?_
    walk_at "rf"
    refine ⟨_, rfl, m, rfl, hm4, fun p6 H6 n6 g6 s6 => ?_⟩
    refine r_catB (s6 _ _ g5) g6 (by rw [List.length_append]; omega) fun p7 H7 n7 g7 s7 => ?_
    have s17 := ((s1.trans s2).trans (s3.trans s4)).trans (s5.trans s6)
    exact h p7 H7 (s17.free n7) g7 (s17.trans s7)
theorem ok_key_octets (F : FunD K "key_octets" "key_octets" (defArgs s_key_octets) (defBody s_key_octets) (defScope s_key_octets) [] [] (glAd "key_octets" K) fd) (m : mg "key_octets" = some (.ref (glAd "key_octets" K))) (nb : Nm w K mg) (c_shortest_head : Cal P w K mg base 2 "shortest_head" (sp_shortest_head K) []) (c_encode : Cal P w K mg base 2 "encode" (sp_encode K) []) : Cal P w K mg base 3 "key_octets" (sp_key_octets K) [] := by
  refine calD F m sc_key_octets (fun _ _ _ _ _ _ us hl => match us, hl with | [_], _ => rfl) len1 (fun cdv A outer s H vs Q E hr h => ⟨_, (pss_cons (ps_set (i := 1) sc_key_octets.nd rfl (Or.inl rfl) (pe_c c_encode hr (by decide) rfl (pa_cons (pv 0) pa_nil)))
    (pss_one (ps_ret (pe_op op_cat (pe_c c_shortest_head hr (by decide) rfl (pa_cons (pe_gc rfl nb.g_TEXT) (pa_cons (pe_callB call_len_seq (by rfl) nb.len PySem.boot_len (pa_cons (pv 1) pa_nil)) pa_nil))) (pv 1))))), ?_⟩)
  obtain ⟨_, rfl, p, ps, rfl, hp, kl, kp, h⟩ := h
  walk_at "rf"
  refine ⟨_, rfl, p, ps, rfl, .inr hp, kp, Nat.lt_of_le_of_lt (Nat.mul_le_mul_left 4 kl) (by decide), fun l H1 nl gl s1 => ?_⟩
  walk_at "rf"
  refine ⟨l, _, rfl, .inl (SqL.of gl), ?_⟩
  rw [List.length_map]
  have el := len_encs ps
  walk_at "rf"
  refine ⟨_, _, rfl, 3, ((encs ps).length : Nat), rfl, rfl, by omega, by omega, fun q H2 n2 g2 s2 => ?_⟩
  walk_at "rf"
  refine r_catB g2 (s2 _ _ gl) (by have := shH_len 3 ((encs ps).length : Nat); omega) fun q4 H4 n4 g4 s4 => ?_
  exact h q4 H4 ((s1.trans s2).free n4) g4 ((s1.trans s2).trans s4)
theorem ok_leaf_octets (F : FunD K "leaf_octets" "leaf_octets" (defArgs s_leaf_octets) (defBody s_leaf_octets) (defScope s_leaf_octets) [] [] (glAd "leaf_octets" K) fd) (m : mg "leaf_octets" = some (.ref (glAd "leaf_octets" K))) (nb : Nm w K mg) (c_shortest_head : Cal P w K mg base 2 "shortest_head" (sp_shortest_head K) []) (c_key_octets : Cal P w K mg base 3 "key_octets" (sp_key_octets K) []) (c__number_octets : Cal P w K mg base 4 "_number_octets" (sp__number_octets K) []) : Cal P w K mg base 5 "leaf_octets" (sp_leaf_octets K) [] := by
  refine calD F m sc_leaf_octets (fun _ _ _ _ _ _ us hl => match us, hl with | [_], _ => rfl) len1 (fun cdv A outer s H vs Q E hr h => ⟨_, (pss_cons (ps_if (pt_cmpR op_eq (pe_ix ix_tup (pv 0) pe_int (fun _ _ => rfl)) pe_str (nomark _))
    (pss_one (ps_ret (pe_c c__number_octets hr (by decide) rfl (pa_cons (pe_ix ix_tup (pv 0) pe_int (fun _ _ => rfl)) (pa_cons (pe_ix ix_tup (pv 0) pe_int (fun _ _ => rfl)) pa_nil)))))
    pss_nil)
    (pss_cons (ps_if (pt_cmpR op_eq (pe_ix ix_tup (pv 0) pe_int (fun _ _ => rfl)) pe_str (nomark _))
    (pss_one (ps_ret (pe_op op_cat (pe_c c_shortest_head hr (by decide) rfl (pa_cons (pe_gc rfl nb.g_BYTES) (pa_cons (pe_callB call_len_seq (by rfl) nb.len PySem.boot_len (pa_cons (pe_ix ix_tup (pv 0) pe_int (fun _ _ => rfl)) pa_nil)) pa_nil))) (pe_callTy call_list_ofE (by rfl) nb.list (by decide +kernel) (pa_cons (pe_ix ix_tup (pv 0) pe_int (fun _ _ => rfl)) pa_nil)))))
    pss_nil)
    (pss_cons (ps_if (pt_cmpR op_eq (pe_ix ix_tup (pv 0) pe_int (fun _ _ => rfl)) pe_str (nomark _))
    (pss_one (ps_ret (pe_c c_key_octets hr (by decide) rfl (pa_cons (pe_ix ix_tup (pv 0) pe_int (fun _ _ => rfl)) pa_nil))))
    pss_nil)
    (pss_cons (ps_if (pt_cmpR op_eq (pe_ix ix_tup (pv 0) pe_int (fun _ _ => rfl)) pe_str (nomark _))
    (pss_one (ps_ret (pe_c c_shortest_head hr (by decide) rfl (pa_cons (pe_gc rfl nb.g_SIMPLE) (pa_cons (pe_gc rfl nb.g_NULL_INFO) pa_nil)))))
    pss_nil)
    (pss_one (ps_ret (pe_c c_shortest_head hr (by decide) rfl (pa_cons (pe_gc rfl nb.g_SIMPLE) (pa_cons (pe_ifExp (pt_truth (pe_ix ix_tup (pv 0) pe_int (fun _ _ => rfl)) (by intro _; rfl)) (pe_gc rfl nb.g_TRUE_INFO) (pe_gc rfl nb.g_FALSE_INFO)) pa_nil))))))))), ?_⟩)
  obtain ⟨_, rfl, a, k, ws, r, rfl, ha, hw, lb, h⟩ := h
  cases lb with
  | number m e hm h0 h1 =>
    have ew := tpI2 hw
    subst ew
    walk_at "rf"
    refine r_ixT ha.sq (atI_nat (j := 0) rfl) ?_
    walk_at "rf"
    refine r_ite (fun _ => ?_) (fun c => absurd rfl c)
    walk_at "rf"
    refine r_ixT ha.sq (atI_nat (j := 1) rfl) ?_
    walk_at "rf"
    refine r_ixT ha.sq (atI_nat (j := 2) rfl) ?_
    walk_at "rf"
    exact ⟨_, _, rfl, m, e, rfl, rfl, hm, h0, h1, h⟩
  | bytes os ho =>
    obtain ⟨t0, rfl, ht⟩ := tpT1 hw
    rw [lfO_bytes] at h
    walk_at "rf"
    refine r_ixT ha.sq (atI_nat (j := 0) rfl) ?_
    walk_at "rf"
    refine r_iteN (show ¬ ("bytes" : Str) = "number" by decide +kernel) ?_
    walk_at "rf"
    refine r_ixT ha.sq (atI_nat (j := 0) rfl) ?_
    walk_at "rf"
    refine r_ite (fun _ => ?_) (fun c => absurd rfl c)
    walk_at "rf"
    refine r_ixT ha.sq (atI_nat (j := 1) rfl) ?_
    walk_at "rf"
    refine ⟨t0, _, rfl, .inr (SqT.of ht), ?_⟩
    rw [List.length_map]
    walk_at "rf"
    refine ⟨_, _, rfl, 2, (os.length : Nat), rfl, rfl, by omega, by omega, fun p1 H1 n1 g1 s1 => ?_⟩
    walk_at "rf"
    refine r_ixT (ha.same s1).sq (atI_nat (j := 1) rfl) ?_
    walk_at "rf"
    refine r_toLt (same_tup s1 (SqT.of ht)) fun p2 H2 n2 g2 s2 => ?_
    have l1 := shH_len 2 (os.length : Nat)
    refine r_catB (s2 _ _ g1) g2 (by omega) fun p3 H3 n3 g3 s3 => ?_
    exact h p3 H3 ((s1.trans s2).free n3) g3 ((s1.trans s2).trans s3)
  | text ps hl hp =>
    obtain ⟨t0, rfl, ht⟩ := tpT1 hw
    rw [lfO_text] at h
    walk_at "rf"
    refine r_ixT ha.sq (atI_nat (j := 0) rfl) ?_
    walk_at "rf"
    refine r_iteN (show ¬ ("text" : Str) = "number" by decide +kernel) ?_
    walk_at "rf"
    refine r_ixT ha.sq (atI_nat (j := 0) rfl) ?_
    walk_at "rf"
    refine r_iteN (show ¬ ("text" : Str) = "bytes" by decide +kernel) ?_
    walk_at "rf"
    refine r_ixT ha.sq (atI_nat (j := 0) rfl) ?_
    walk_at "rf"
    refine r_ite (fun _ => ?_) (fun c => absurd rfl c)
    walk_at "rf"
    refine r_ixT ha.sq (atI_nat (j := 1) rfl) ?_
    walk_at "rf"
    exact ⟨_, rfl, t0, ps, rfl, ht, hl, hp, h⟩
  | truth b =>
    obtain rfl : ws = [.bl b] := by
      cases hw with
      | cons h1 h2 =>
        cases h1
        cases h2
        rfl
    walk_at "rf"
    refine r_ixT ha.sq (atI_nat (j := 0) rfl) ?_
    walk_at "rf"
    refine r_iteN (show ¬ ("truth" : Str) = "number" by decide +kernel) ?_
    walk_at "rf"
    refine r_ixT ha.sq (atI_nat (j := 0) rfl) ?_
    walk_at "rf"
    refine r_iteN (show ¬ ("truth" : Str) = "bytes" by decide +kernel) ?_
    walk_at "rf"
    refine r_ixT ha.sq (atI_nat (j := 0) rfl) ?_
    walk_at "rf"
    refine r_iteN (show ¬ ("truth" : Str) = "text" by decide +kernel) ?_
    walk_at "rf"
    refine r_ixT ha.sq (atI_nat (j := 0) rfl) ?_
    walk_at "rf"
    refine r_iteN (show ¬ ("truth" : Str) = "null" by decide +kernel) ?_
    walk_at "rf"
    refine r_ixT ha.sq (atI_nat (j := 1) rfl) ?_
    walk_at "rf"
    cases b with
    | true =>
      refine ⟨true, rfl, ?_⟩
      dsimp only
      rw [if_pos rfl]
      walk_at "rf"
      exact ⟨_, _, rfl, 7, 21, rfl, rfl, by decide, by decide, h⟩
    | false =>
      refine ⟨false, rfl, ?_⟩
      dsimp only
      rw [if_neg Bool.false_ne_true]
      walk_at "rf"
      exact ⟨_, _, rfl, 7, 20, rfl, rfl, by decide, by decide, h⟩
  | null =>
    walk_at "rf"
    refine r_ixT ha.sq (atI_nat (j := 0) rfl) ?_
    walk_at "rf"
    refine r_iteN (show ¬ ("null" : Str) = "number" by decide +kernel) ?_
    walk_at "rf"
    refine r_ixT ha.sq (atI_nat (j := 0) rfl) ?_
    walk_at "rf"
    refine r_iteN (show ¬ ("null" : Str) = "bytes" by decide +kernel) ?_
    walk_at "rf"
    refine r_ixT ha.sq (atI_nat (j := 0) rfl) ?_
    walk_at "rf"
    refine r_iteN (show ¬ ("null" : Str) = "text" by decide +kernel) ?_
    walk_at "rf"
    refine r_ixT ha.sq (atI_nat (j := 0) rfl) ?_
    walk_at "rf"
    refine r_ite (fun _ => ?_) (fun c => absurd rfl c)
    walk_at "rf"
    exact ⟨_, _, rfl, 7, 22, rfl, rfl, by decide, by decide, h⟩
end

/-! ### what is lacking -/




def lackK (k : Str) (r : List PyData) : Bool :=
  if k = "number" then (match r with
    | [.int _, .int e] => !(decide (-1000000000 ≤ e) && decide (e ≤ 1000000000))
    | _ => false) else false
def NumK (k : Str) (r : List PyData) : Prop := k = "number" → ∃ m e : Int, r = [.int m, .int e]
def kindV : Vl → Str
  | .lf k _ => k
  | .ls _ => "list"
  | .mp _ => "map"
def restV : Vl → List PyData
  | .lf _ r => r
  | .ls xs => [.tuple (datL xs)]
  | .mp es => [.tuple (datM es)]
theorem dat_kind (d : Vl) : d.dat = .tuple (.str (kindV d) :: restV d) := by cases d <;> rfl
def lackV (d : Vl) : Bool := lackK (kindV d) (restV d)
def NumAll (d : Vl) : Prop := ∀ x ∈ preV d, NumK (kindV x) (restV x)
/-- the index of the first one that is lacking -/
def fstL (ds : List Vl) : Option Nat := ds.findIdx? lackV
def optV : Option Nat → V
  | none => .non
  | some i => .int (i : Nat)
theorem in_three (k a b c : Str) : inV (.str k) [.str a, .str b, .str c] = (decide (k = a) || (decide (k = b) || decide (k = c))) := by
  have e : ∀ a : Str, eqV (.str a) (.str k) = decide (k = a) := fun a => by
    show (a == k) = decide (k = a)
    by_cases c : k = a
    · rw [c, decide_eq_true rfl]
      simp
    · rw [decide_eq_false c]
      exact beq_eq_false_iff_ne.mpr fun z => c z.symm
  unfold inV
  rw [List.any_cons, List.any_cons, List.any_cons, List.any_nil, Bool.or_false, e, e, e]
theorem in_two (k a b : Str) : inV (.str k) [.str a, .str b] = (decide (k = a) || decide (k = b)) := by
  have e : ∀ a : Str, eqV (.str a) (.str k) = decide (k = a) := fun a => by
    show (a == k) = decide (k = a)
    by_cases c : k = a
    · rw [c, decide_eq_true rfl]
      simp
    · rw [decide_eq_false c]
      exact beq_eq_false_iff_ne.mpr fun z => c z.symm
  unfold inV
  rw [List.any_cons, List.any_cons, List.any_nil, Bool.or_false, e, e]
theorem tpV_kind {H : Hp} {v : V} {d : Vl} (h : TpV H v d) : ∃ p xs, v = .ref p ∧ H p = some (.tup (.str (kindV d) :: xs)) ∧ TpAll H xs (restV d) := by
  obtain ⟨t, _⟩ := h
  rw [dat_kind] at t
  obtain ⟨a, us, rfl, ha, hu⟩ := tp_tup t
  cases hu with
  | cons r1 r2 => cases r1; exact ⟨a, _, rfl, ha, r2⟩
theorem TupExt.same {H H' : Hp} (h : TupExt H H') : Same H H' := fun b o e => by
  rcases h b with q | ⟨q, _⟩
  · rw [q]
    exact e
  · rw [e] at q
    cases q
theorem TupExt.trans {A B C : Hp} (h : TupExt A B) (k : TupExt B C) : TupExt A C := fun b => by
  rcases k b with q | ⟨q, xs, e⟩
  · rw [q]
    exact h b
  · rcases h b with q2 | ⟨q2, _⟩
    · exact .inr ⟨q2.symm.trans q, xs, e⟩
    · exact .inr ⟨q2, xs, e⟩
theorem fstL_none {ds : List Vl} (h : ∀ x ∈ ds, lackV x = false) : fstL ds = none := by
  unfold fstL
  rw [List.findIdx?_eq_none_iff]
  intro x hx
  rw [h x hx]
theorem fstL_at : ∀ {ds : List Vl} {i : Nat} {e : Vl}, ds[i]? = some e → lackV e = true → (∀ j < i, ∀ x, ds[j]? = some x → lackV x = false) → fstL ds = some i
  | [], i, e, h, _, _ => by simp at h
  | d :: ds, 0, e, h, c, _ => by
    cases (show some d = some e from h)
    unfold fstL
    rw [List.findIdx?_cons, c]
    rfl
  | d :: ds, i + 1, e, h, c, q => by
    have q0 := q 0 (Nat.succ_pos i) d rfl
    have r := fstL_at (ds := ds) (i := i) (by simpa using h) c fun j hj x hx => q (j + 1) (Nat.succ_lt_succ hj) x (by simpa using hx)
    unfold fstL at r ⊢
    rw [List.findIdx?_cons, q0, r]
    rfl
def sp_is_lacking (K : Frg) : Sp := sp1 fun a H Q _ => ∃ (p : Addr) (k : Str) (xs : List V) (r : List PyData), a = .ref p ∧ H p = some (.tup (.str k :: xs)) ∧ TpAll H xs r ∧ NumK k r ∧ ∀ H', TupExt H H' → Q (.bl (lackK k r)) H'
def sp_first_lacking (K : Frg) : Sp := sp2 fun a g H Q _ => ∃ d : Vl, g = .ref (glAd "is_lacking" K) ∧ TpV H a d ∧ NumAll d ∧ (preV d).length ≤ sizeLine ∧ ∀ H', Same H H' → Q (optV (fstL (preV d))) H'
def sp_cbor_lacks (K : Frg) : Sp := sp1 fun a H Q _ => ∃ d : Vl, TpV H a d ∧ NumAll d ∧ (preV d).length ≤ sizeLine ∧ ∀ H', Same H H' → Q (optV (fstL (preV d))) H'
def sp_check_writable (K : Frg) : Sp := sp2 fun a g H Q E => ∃ d : Vl, g = .ref (glAd "is_lacking" K) ∧ TpV H a d ∧ NumAll d ∧ (preV d).length ≤ sizeLine ∧ (fstL (preV d) = none → ∀ H', Same H H' → Q .non H') ∧
  ∀ i, fstL (preV d) = some i → ∀ x H', H' x = some (.xd [("what", .int (i : Nat))]) → Same H H' → E (.ref (C_Unwritable K)) (some x) H'
section
variable {P : Program} {w : World} {K : PySem.W.Frag} {mg : Str → Option Value} {base : Heap} {f : Addr} {fd : FuncData}
theorem ok_is_lacking (F : FunD K "is_lacking" "is_lacking" (defArgs s_is_lacking) (defBody s_is_lacking) (defScope s_is_lacking) [] [] (glAd "is_lacking" K) fd) (m : mg "is_lacking" = some (.ref (glAd "is_lacking" K))) (nb : Nm w K mg) : Cal P w K mg base 1 "is_lacking" (sp_is_lacking K) [] := by
  refine calD F m sc_is_lacking (fun _ _ _ _ _ _ us hl => match us, hl with | [_], _ => rfl) len1 (fun cdv A outer s H vs Q E hr h => ⟨_, (pss_one (ps_ret (pe_and (pe_cmpR op_eq (pe_ix ix_tup (pv 0) pe_int (fun _ _ => rfl)) pe_str (nomark _)) (pe_one (pe_not (pe_chain op_le op_le (pe_un un_neg (pe_gc rfl nb.g_LARGEST_EXPONENT)) (pe_ix ix_tup (pv 0) pe_int (fun _ _ => rfl)) (pe_gc rfl nb.g_LARGEST_EXPONENT))))))), ?_⟩)
  obtain ⟨_, rfl, p, k, xs, r, rfl, hp, hx, hn, h⟩ := h
  walk_at "rf"
  refine r_ixT (SqT.of hp) (atI_nat (j := 0) rfl) ?_
  walk_at "rf"
  by_cases c : k = "number"
  · obtain ⟨m, e, rfl⟩ := hn c
    obtain ⟨v1, v2, rfl⟩ : ∃ v1, ∃ v2 : Unit, xs = [.int m, .int e] := ⟨(), (), by
      cases hx with
      | cons h1 h2 =>
        cases h1
        cases h2 with
        | cons h1 h2 =>
          cases h1
          cases h2
          rfl⟩
    have el : lackK k [.int m, .int e] = !(decide (-1000000000 ≤ e) && decide (e ≤ 1000000000)) := if_pos c
    rw [el] at h
    have h := h H (TupExt.refl H)
    refine r_itep c ?_
    walk_at "rf"
    refine r_ixT (SqT.of hp) (atI_nat (j := 2) rfl) ?_
    walk_at "rf"
    refine r_ite (fun c1 => ?_) (fun c1 => ?_)
    · rw [decide_eq_true c1, Bool.true_and] at h
      walk_at "rf"
      exact h
    · rw [decide_eq_false c1, Bool.false_and] at h
      exact ⟨_, rfl, h⟩
  · have el : lackK k r = false := if_neg c
    rw [el] at h
    refine r_iteN c ?_
    exact h H (TupExt.refl H)
theorem ok_first_lacking (F : FunD K "first_lacking" "first_lacking" (defArgs s_first_lacking) (defBody s_first_lacking) (defScope s_first_lacking) [] [] (glAd "first_lacking" K) fd) (m : mg "first_lacking" = some (.ref (glAd "first_lacking" K))) (nb : Nm w K mg) (c_is_lacking : Cal P w K mg base 1 "is_lacking" (sp_is_lacking K) []) (c_walk : Wlk P w K mg base 4 "walk") : Cal P w K mg base 5 "first_lacking" (sp_first_lacking K) [] := by
  refine calD F m sc_first_lacking (fun _ _ _ _ _ _ us hl => match us, hl with | [_, _], _ => rfl) len2 (fun cdv A outer s H vs Q E hr h => ⟨_, (pss_cons (ps_wlk c_walk hr (by decide) nb.enumerate (pv 0) (pg_tup rfl (pgs_cons (pg_name (i := 2) sc_first_lacking.nd rfl (Or.inl rfl)) (pgs_cons (pg_name (i := 3) sc_first_lacking.nd rfl (Or.inl rfl)) pgs_nil)))
    (pss_one (ps_if (pt_val (pe_cL (i := 1) c_is_lacking hr (by decide) (pa_cons (pv 3) pa_nil)))
    (pss_one (ps_ret (pv 2)))
    pss_nil)))
    (pss_one (ps_ret pe_non))), ?_⟩)
  obtain ⟨v, _, rfl, d, rfl, tp, nu, hz, h⟩ := h
  -- 0:value 1:is_lacking 2:index 3:found
  walk_at "rf"
  refine ⟨v, rfl, d, tp, hz, fun i σ H' => TupExt H H' ∧ (∀ j < i, ∀ x, (preV d)[j]? = some x → lackV x = false) ∧ ∃ y2 y3, σ = [some v, some (.ref (glAd "is_lacking" K)), y2, y3], ⟨TupExt.refl H, fun j hj => absurd hj (Nat.not_lt_zero j), none, none, rfl⟩, fun i σ H' q => q.1, ?_, ?_⟩
  · rintro i x e σ H2 p he tx ⟨te, hq, y2, y3, rfl⟩ np
    refine r_gtup (SqT.of upd_same) rfl ?_
    obtain ⟨b, xs, rfl, hb, hxs⟩ := tpV_kind (tx.tk (Same.tk te.same))
    have t2 := te.put (xs := [.int (i : Nat), .ref b]) np
    walk_at "rf"
    refine r_callN rfl nb.f_is_lacking ?_
    walk_at "rf"
    refine ⟨_, rfl, b, kindV e, xs, restV e, rfl, ((TupExt.refl H2).put np).same _ _ hb, TpAll.tk (Same.tk ((TupExt.refl H2).put np).same) _ _ hxs, nu e (List.mem_of_getElem? he), fun H3 t3 => ⟨_, rfl, ?_⟩⟩
    cases c : lackK (kindV e) (restV e) with
    | true =>
      walk_at "rf"
      have q := h H3 (t2.trans t3).same
      rw [fstL_at he c hq] at q
      exact q
    | false =>
      walk_at "rf"
      refine ⟨t2.trans t3, fun j hj x hx => ?_, _, _, rfl⟩
      by_cases hji : j < i
      · exact hq j hji x hx
      · have : j = i := by omega
        subst this
        rw [he] at hx
        cases hx
        exact c
  · rintro σ H2 ⟨te, hq, y2, y3, rfl⟩
    walk_at "rf"
    have q := h H2 te.same
    rw [fstL_none fun x hx => by
      obtain ⟨j, hj, e⟩ := List.mem_iff_getElem.mp hx
      exact hq j hj x (by rw [List.getElem?_eq_getElem hj, e])] at q
    exact q
theorem ok_check_writable (F : FunD K "check_writable" "check_writable" (defArgs s_check_writable) (defBody s_check_writable) (defScope s_check_writable) [] [] (glAd "check_writable" K) fd) (m : mg "check_writable" = some (.ref (glAd "check_writable" K))) (nb : Nm w K mg) (z_Unwritable : Raz P w K mg base "Unwritable" (C_Unwritable K) "what") (c_first_lacking : Cal P w K mg base 5 "first_lacking" (sp_first_lacking K) []) : CalX P w K mg base 6 "check_writable" (sp_check_writable K) := by
  refine calXD F m sc_check_writable (fun _ _ _ _ _ _ us hl => match us, hl with | [_, _], _ => rfl) len2 (fun cdv A outer s H vs Q E hr h => ⟨_, (pss_cons (ps_set (i := 2) sc_check_writable.nd rfl (Or.inl rfl) (pe_c c_first_lacking hr (by decide) rfl (pa_cons (pv 0) (pa_cons (pv 1) pa_nil))))
    (pss_one (ps_if (pt_cmpR op_notN (pv 2) pe_non (nomark _))
    (pss_one (ps_raz z_Unwritable rfl hr (by decide) rfl (takes_of rfl rfl rfl rfl) (pv 2)))
    pss_nil))), ?_⟩)
  obtain ⟨v, _, rfl, d, rfl, tp, nu, hz, h1, h2⟩ := h
  walk_at "rf"
  refine ⟨_, _, rfl, d, rfl, tp, nu, hz, fun H1 s1 => ?_⟩
  cases e : fstL (preV d) with
  | none =>
    walk_at "rf"
    rw [show (!decide (optV none = V.non)) = false from rfl]
    walk_at "rf"
    exact h1 e H1 s1
  | some i =>
    walk_at "rf"
    rw [show (!decide (optV (some i) = V.non)) = true from rfl]
    walk_at "rf"
    exact fun x nx => h2 i e x _ upd_same (s1.trans (same_upd nx _))
theorem ok_cbor_lacks (F : FunD K "cbor_lacks" "cbor_lacks" (defArgs s_cbor_lacks) (defBody s_cbor_lacks) (defScope s_cbor_lacks) [] [] (glAd "cbor_lacks" K) fd) (m : mg "cbor_lacks" = some (.ref (glAd "cbor_lacks" K))) (nb : Nm w K mg) (c_first_lacking : Cal P w K mg base 5 "first_lacking" (sp_first_lacking K) []) : Cal P w K mg base 6 "cbor_lacks" (sp_cbor_lacks K) [] := by
  refine calD F m sc_cbor_lacks (fun _ _ _ _ _ _ us hl => match us, hl with | [_], _ => rfl) len1 (fun cdv A outer s H vs Q E hr h => ⟨_, (pss_one (ps_ret (pe_c c_first_lacking hr (by decide) rfl (pa_cons (pv 0) (pa_cons (pe_gc (v := .ref (glAd "is_lacking" K)) rfl ⟨_, nb.f_is_lacking, rfl⟩) pa_nil))))), ?_⟩)
  obtain ⟨v, rfl, d, tp, nu, hz, h⟩ := h
  walk_at "rf"
  exact ⟨_, _, rfl, d, rfl, tp, nu, hz, h⟩
end

/-! ### the law's own writing -/








def hb4 : List Int := [256, 65536, 4294967296, 18446744073709551616]
def sp__law_utf8 (K : Frg) : Sp := sp1 fun a H Q _ => ∃ (p : Addr) (ps : List Int), a = .ref p ∧ H p = some (.tup (ps.map V.int)) ∧ ps.length ≤ 200 ∧ Out H (encs ps) Q
def sp__law_big_endian (K : Frg) : Sp := sp2 fun a b H Q _ => ∃ (n : Int) (k : Nat), a = .int n ∧ b = .int (k : Int) ∧ 0 ≤ n ∧ k ≤ 1000 ∧ Out H (be k n) Q
def sp__law_fewest (K : Frg) : Sp := sp1 fun a H Q _ => ∃ n : Int, a = .int n ∧ 0 ≤ n ∧ fewK n < 1300 ∧ Out H (few n) Q
def sp__law_head (K : Frg) : Sp := sp_shortest_head K
def sp__law_integer (K : Frg) : Sp := sp1 fun a H Q _ => ∃ z : Int, a = .int z ∧ z.natAbs < 256 ^ 840 ∧ Out H (intO z) Q
def sp__law_number_written (K : Frg) : Sp := sp__number_octets K
def sp__law_text (K : Frg) : Sp := sp_key_octets K
def sp__law_leaf_written (K : Frg) : Sp := sp_leaf_octets K
theorem b443 : 10 ^ (1950 + 64) ≤ 256 ^ 840 := b444
section
variable {P : Program} {w : World} {K : PySem.W.Frag} {mg : Str → Option Value} {base : Heap} {f : Addr} {fd : FuncData}
theorem ok__law_utf8 (F : FunD K "_law_utf8" "_law_utf8" (defArgs s__law_utf8) (defBody s__law_utf8) (defScope s__law_utf8) [] [] (glAd "_law_utf8" K) fd) (m : mg "_law_utf8" = some (.ref (glAd "_law_utf8" K))) (nb : Nm w K mg) : Cal P w K mg base 1 "_law_utf8" (sp__law_utf8 K) [] := by
  refine calD F m sc__law_utf8 (fun _ _ _ _ _ _ us hl => match us, hl with | [_], _ => rfl) len1 (fun cdv A outer s H vs Q E hr h => ⟨_, (pss_cons (ps_set (i := 1) sc__law_utf8.nd rfl (Or.inl rfl) (pe_lstE pa_nil))
    (pss_cons (ps_for PassesOwn.never rfl (pi_tup (pv 0)) (pg_name (i := 2) sc__law_utf8.nd rfl (Or.inl rfl))
    (pss_one (ps_if (pt_cmpR op_lt (pv 2) pe_int (nomark _))
    (pss_one (ps_expr (pe_bm PySem.F.plainAttrs_list PySem.F.slot_list_append PySem.F.type_list_append mt_append (pv 1) (pa_cons (pv 2) pa_nil))))
    (pss_one (ps_if (pt_cmpR op_lt (pv 2) pe_int (nomark _))
    (pss_one (ps_set (i := 1) sc__law_utf8.nd rfl (Or.inl rfl) (pe_op op_cat (pv 1) (pe_lstE (pa_cons (pe_op op_add pe_int (pe_op op_fdiv (pv 2) pe_int)) (pa_cons (pe_op op_add pe_int (pe_op op_mod (pv 2) pe_int)) pa_nil))))))
    (pss_one (ps_if (pt_cmpR op_lt (pv 2) pe_int (nomark _))
    (pss_one (ps_set (i := 1) sc__law_utf8.nd rfl (Or.inl rfl) (pe_op op_cat (pv 1) (pe_lstE (pa_cons (pe_op op_add pe_int (pe_op op_fdiv (pv 2) pe_int)) (pa_cons (pe_op op_add pe_int (pe_op op_mod (pe_op op_fdiv (pv 2) pe_int) pe_int)) (pa_cons (pe_op op_add pe_int (pe_op op_mod (pv 2) pe_int)) pa_nil)))))))
    (pss_one (ps_set (i := 1) sc__law_utf8.nd rfl (Or.inl rfl) (pe_op op_cat (pv 1) (pe_lstE (pa_cons (pe_op op_add pe_int (pe_op op_fdiv (pv 2) pe_int)) (pa_cons (pe_op op_add pe_int (pe_op op_mod (pe_op op_fdiv (pv 2) pe_int) pe_int)) (pa_cons (pe_op op_add pe_int (pe_op op_mod (pe_op op_fdiv (pv 2) pe_int) pe_int)) (pa_cons (pe_op op_add pe_int (pe_op op_mod (pv 2) pe_int)) pa_nil)))))))))))))))
    (pss_one (ps_ret (pv 1))))), ?_⟩)
  obtain ⟨_, rfl, a, ps, rfl, ha, hp, h⟩ := h
  walk_at "rf"
  refine ⟨by show 0 ≤ sizeLine; decide, fun q H1 nq g1 s1 => ?_⟩
  walk_at "rf"
  refine ⟨a, rfl, ⟨_, SqT.of (s1 _ _ ha)⟩, ?_⟩
  refine r_eachT (xs := ps.map V.int) (fun i σ H' => Same H H' ∧ ∃ (q : Addr) (y : Option V), H q = none ∧ H' q = some (.lst ((encs (ps.take i)).map V.int)) ∧ σ = [some (.ref a), some (.ref q), y]) ⟨s1, q, none, nq, g1, rfl⟩ (fun i σ H' p => SqT.of (p.1 _ _ ha)) ?_ ?_
  · rintro i x σ H2 hx ⟨s2, q, y, nq, g2, rfl⟩
    obtain ⟨c, hc, rfl, et⟩ := ints_get hx
    have hi : i < ps.length := (List.getElem?_eq_some_iff.mp hc).1
    have hl : (encs (ps.take i)).length ≤ 800 := by
      have h1 := len_encs (ps.take i)
      have h2 : (ps.take i).length ≤ ps.length := List.length_take_le' _ _
      omega
    have step : ∀ r : List Int, enc1 c = r → ∀ (q2 : Addr) (H3 : Hp), H2 q2 = none → H3 q2 = some (.lst ((encs (ps.take i) ++ r).map V.int)) → Same H2 H3 → Same H H3 ∧ ∃ (q : Addr) (y : Option V), H q = none ∧ H3 q = some (.lst ((encs (ps.take (i + 1))).map V.int)) ∧ [some (V.ref a), some (.ref q2), some (.int c)] = [some (.ref a), some (.ref q), y] := fun r er q2 H3 n2 g3 s3 => ⟨s2.trans s3, q2, _, s2.free n2, by rw [et, encs_snoc, er]; exact g3, rfl⟩
    walk_at "rf"
    refine r_ite (fun c1 => ?_) (fun c1 => ?_)
    · walk_at "rf"
      refine ⟨tyL g2, ?_⟩
      walk_at "rf"
      refine r_appE g2 (small1000 (by rw [List.length_map]; omega)) fun H5 hL5 f5 => ?_
      walk_at "rf"
      refine ⟨fun b u hb => f5.get (fun e => by rw [e, nq] at hb; cases hb) (s2 _ _ hb), q, _, nq, ?_, rfl⟩
      rw [hL5, map_snoc, et, encs_snoc, enc_low c1]
    walk_at "rf"
    refine r_ite (fun c2 => ?_) (fun c2 => ?_)
    · have er : enc1 c = [192 + c / 64, 128 + c % 64] := (if_neg c1).trans (if_pos c2)
      walk_at "rf"
      refine ⟨by show 2 ≤ sizeLine; decide, fun q2 H3 n2 g3 s3 => ?_⟩
      have g3 : H3 q2 = some (.lst (([192 + c / 64, 128 + c % 64] : List Int).map V.int)) := g3
      refine r_catB (s3 _ _ g2) g3 (by show _ + 2 ≤ _; omega) fun p3 H4 n4 g4 s4 => ?_
      walk_at "rf"
      exact step _ er p3 H4 (s3.free n4) g4 (s3.trans s4)
    walk_at "rf"
    refine r_ite (fun c3 => ?_) (fun c3 => ?_)
    · have er : enc1 c = [224 + c / 4096, 128 + c / 64 % 64, 128 + c % 64] := (if_neg c1).trans ((if_neg c2).trans (if_pos c3))
      walk_at "rf"
      refine ⟨by show 3 ≤ sizeLine; decide, fun q2 H3 n2 g3 s3 => ?_⟩
      have g3 : H3 q2 = some (.lst (([224 + c / 4096, 128 + c / 64 % 64, 128 + c % 64] : List Int).map V.int)) := g3
      refine r_catB (s3 _ _ g2) g3 (by show _ + 3 ≤ _; omega) fun p3 H4 n4 g4 s4 => ?_
      walk_at "rf"
      exact step _ er p3 H4 (s3.free n4) g4 (s3.trans s4)
    · have er : enc1 c = [240 + c / 262144, 128 + c / 4096 % 64, 128 + c / 64 % 64, 128 + c % 64] := (if_neg c1).trans ((if_neg c2).trans (if_neg c3))
      walk_at "rf"
      refine ⟨by show 4 ≤ sizeLine; decide, fun q2 H3 n2 g3 s3 => ?_⟩
      have g3 : H3 q2 = some (.lst (([240 + c / 262144, 128 + c / 4096 % 64, 128 + c / 64 % 64, 128 + c % 64] : List Int).map V.int)) := g3
      refine r_catB (s3 _ _ g2) g3 (by show _ + 4 ≤ _; omega) fun p3 H4 n4 g4 s4 => ?_
      walk_at "rf"
      exact step _ er p3 H4 (s3.free n4) g4 (s3.trans s4)
  · rintro σ H2 ⟨s2, q, y, nq, g2, rfl⟩
    rw [List.length_map, List.take_length] at g2
    walk_at "rf"
    exact h q H2 nq g2 s2
theorem ok__law_big_endian (F : FunD K "_law_big_endian" "_law_big_endian" (defArgs s__law_big_endian) (defBody s__law_big_endian) (defScope s__law_big_endian) [] [] (glAd "_law_big_endian" K) fd) (m : mg "_law_big_endian" = some (.ref (glAd "_law_big_endian" K))) (nb : Nm w K mg) : Cal P w K mg base 1 "_law_big_endian" (sp__law_big_endian K) [] := by
  refine calD F m sc__law_big_endian (fun _ _ _ _ _ _ us hl => match us, hl with | [_, _], _ => rfl) len2 (fun cdv A outer s H vs Q E hr h => ⟨_, (pss_cons (ps_set (i := 2) sc__law_big_endian.nd rfl (Or.inl rfl) (pe_lstE pa_nil))
    (pss_cons (ps_for PassesOwn.never rfl (pi_range1 rfl nb.range (pa_cons (pv 1) pa_nil)) (pg_name (i := 3) sc__law_big_endian.nd rfl (Or.inl rfl))
    (pss_cons (ps_set (i := 2) sc__law_big_endian.nd rfl (Or.inl rfl) (pe_op op_cat (pe_lstE (pa_cons (pe_op op_mod (pe_callTy call_int1 (by rfl) nb.int (by decide +kernel) (pa_cons (pv 0) pa_nil)) pe_int) pa_nil)) (pv 2)))
    (pss_one (ps_set (i := 0) sc__law_big_endian.nd rfl (Or.inl rfl) (pe_op op_fdiv (pv 0) pe_int)))))
    (pss_one (ps_ret (pv 2))))), ?_⟩)
  obtain ⟨_, _, rfl, n, k, rfl, rfl, hn, hk, h⟩ := h
  walk_at "rf"
  refine ⟨by show 0 ≤ sizeLine; decide, fun q H1 nq g1 s1 => ?_⟩
  walk_at "rf"
  refine r_turns (by omega) (by omega) (fun i σ H' => Same H H' ∧ i ≤ k ∧ ∃ (q : Addr) (y : Option V), H q = none ∧ H' q = some (.lst ((be i n).map V.int)) ∧ σ = [some (.int (n / 256 ^ i)), some (.int (k : Int)), some (.ref q), y]) ⟨s1, Nat.zero_le _, q, none, nq, g1, by rw [Int.pow_zero, Int.ediv_one]; rfl⟩ ?_ ?_
  · rintro i σ H2 hi ⟨s2, hik, q, y, nq, g2, rfl⟩
    have hl := be_len i n
    walk_at "rf"
    refine ⟨by show 1 ≤ sizeLine; decide, fun q2 H3 n2 g3 s3 => ?_⟩
    have g3 : H3 q2 = some (.lst (([n / 256 ^ i % 256] : List Int).map V.int)) := g3
    walk_at "rf"
    refine r_catB g3 (s3 _ _ g2) (by show 1 + _ ≤ _; omega) fun p3 H4 n4 g4 s4 => ?_
    rw [← be_left] at g4
    walk_at "rf"
    have ee : n / 256 ^ i / 256 = n / 256 ^ (i + 1) := by rw [Int.pow_succ, ← Int.ediv_ediv_of_nonneg (Int.pow_nonneg (by decide))]
    exact ⟨(s2.trans s3).trans s4, by omega, p3, some (.int (i : Nat)), (s2.trans s3).free n4, g4, by rw [← ee]; rfl⟩
  · rintro σ H2 ⟨s2, hik, q, y, nq, g2, rfl⟩
    walk_at "rf"
    exact h q H2 nq g2 s2
theorem ok__law_fewest (F : FunD K "_law_fewest" "_law_fewest" (defArgs s__law_fewest) (defBody s__law_fewest) (defScope s__law_fewest) [] [] (glAd "_law_fewest" K) fd) (m : mg "_law_fewest" = some (.ref (glAd "_law_fewest" K))) (nb : Nm w K mg) : Cal P w K mg base 1 "_law_fewest" (sp__law_fewest K) [] := by
  refine calD F m sc__law_fewest (fun _ _ _ _ _ _ us hl => match us, hl with | [_], _ => rfl) len1 (fun cdv A outer s H vs Q E hr h => ⟨_, (pss_cons (ps_set (i := 1) sc__law_fewest.nd rfl (Or.inl rfl) (pe_lstE pa_nil))
    (pss_cons (ps_for PassesOwn.never rfl (pi_range1 rfl nb.range (pa_cons pe_int pa_nil)) (pg_name (i := 2) sc__law_fewest.nd rfl (Or.inl rfl))
    (pss_cons (ps_if (pt_cmpR op_eq (pv 0) pe_int (nomark _))
    (pss_one (ps_ret (pv 1)))
    pss_nil)
    (pss_cons (ps_set (i := 1) sc__law_fewest.nd rfl (Or.inl rfl) (pe_op op_cat (pe_lstE (pa_cons (pe_op op_mod (pe_callTy call_int1 (by rfl) nb.int (by decide +kernel) (pa_cons (pv 0) pa_nil)) pe_int) pa_nil)) (pv 1)))
    (pss_one (ps_set (i := 0) sc__law_fewest.nd rfl (Or.inl rfl) (pe_op op_fdiv (pv 0) pe_int))))))
    (pss_one (ps_ret (pv 1))))), ?_⟩)
  obtain ⟨_, rfl, n, rfl, h0, h1, h⟩ := h
  have nil : ∀ i : Nat, n / 256 ^ i = 0 ↔ fewK n ≤ i := fun i => by
    have hp : (0 : Int) < 256 ^ i := Int.pow_pos (by decide)
    rw [few_le h0]
    constructor
    · intro hz
      have := (Int.ediv_lt_iff_lt_mul hp (a := n) (b := 1)).mp (by rw [hz]; decide)
      rwa [Int.one_mul] at this
    · exact fun hl => Int.ediv_eq_zero_of_lt h0 hl
  walk_at "rf"
  refine ⟨by show 0 ≤ sizeLine; decide, fun q H1 nq g1 s1 => ?_⟩
  walk_at "rf"
  refine r_turns (by omega) (by omega) (fun i σ H' => Same H H' ∧ i ≤ fewK n ∧ ∃ (q : Addr) (y : Option V), H q = none ∧ H' q = some (.lst ((be i n).map V.int)) ∧ σ = [some (.int (n / 256 ^ i)), some (.ref q), y]) ⟨s1, Nat.zero_le _, q, none, nq, g1, by rw [Int.pow_zero, Int.ediv_one]; rfl⟩ ?_ ?_
  · rintro i σ H2 hi ⟨s2, hik, q, y, nq, g2, rfl⟩
    have hl := be_len i n
    walk_at "rf"
    refine r_ite (fun c => ?_) (fun c => ?_)
    · walk_at "rf"
      have : i = fewK n := by have := (nil i).mp c; omega
      subst this
      exact h q H2 nq g2 s2
    have hlow : i < fewK n := Nat.lt_of_not_le fun z => c ((nil i).mpr z)
    walk_at "rf"
    refine ⟨by show 1 ≤ sizeLine; decide, fun q2 H3 n2 g3 s3 => ?_⟩
    have g3 : H3 q2 = some (.lst (([n / 256 ^ i % 256] : List Int).map V.int)) := g3
    walk_at "rf"
    refine r_catB g3 (s3 _ _ g2) (by show 1 + _ ≤ _; omega) fun p3 H4 n4 g4 s4 => ?_
    rw [← be_left] at g4
    walk_at "rf"
    have ee : n / 256 ^ i / 256 = n / 256 ^ (i + 1) := by rw [Int.pow_succ, ← Int.ediv_ediv_of_nonneg (Int.pow_nonneg (by decide))]
    exact ⟨(s2.trans s3).trans s4, by omega, p3, some (.int (i : Nat)), (s2.trans s3).free n4, g4, by rw [← ee]; rfl⟩
  · rintro σ H2 ⟨s2, hik, q, y, nq, g2, rfl⟩
    have hik : (1300 : Int).toNat ≤ fewK n := hik
    exact absurd h1 (by omega)
theorem ok__law_head (F : FunD K "_law_head" "_law_head" (defArgs s__law_head) (defBody s__law_head) (defScope s__law_head) [] [] (glAd "_law_head" K) fd) (m : mg "_law_head" = some (.ref (glAd "_law_head" K))) (nb : Nm w K mg) (c__law_big_endian : Cal P w K mg base 1 "_law_big_endian" (sp__law_big_endian K) []) : Cal P w K mg base 2 "_law_head" (sp__law_head K) [] := by
  refine calD F m sc__law_head (fun _ _ _ _ _ _ us hl => match us, hl with | [_, _], _ => rfl) len2 (fun cdv A outer s H vs Q E hr h => ⟨_, (pss_cons (ps_if (pt_cmpR op_lt (pv 1) pe_int (nomark _))
    (pss_one (ps_ret (pe_lstE (pa_cons (pe_op op_add (pe_op op_mul (pv 0) pe_int) (pv 1)) pa_nil))))
    pss_nil)
    (pss_cons (ps_for PassesOwn.never rfl (pi_range1 rfl nb.range (pa_cons pe_int pa_nil)) (pg_name (i := 2) sc__law_head.nd rfl (Or.inl rfl))
    (pss_cons (ps_set (i := 3) sc__law_head.nd rfl (Or.inl rfl) (pe_ix ix_list (pe_lstE (pa_cons pe_int (pa_cons pe_int (pa_cons pe_int (pa_cons pe_int pa_nil))))) (pv 2) (fun _ _ => rfl)))
    (pss_one (ps_if (pt_cmpR op_lt (pv 1) (pe_ix ix_list (pe_lstE (pa_cons pe_int (pa_cons pe_int (pa_cons (pe_op op_pow pe_int pe_int) (pa_cons (pe_op op_pow pe_int pe_int) pa_nil))))) (pv 2) (fun _ _ => rfl)) (nomark _))
    (pss_one (ps_ret (pe_op op_cat (pe_lstE (pa_cons (pe_op op_add (pe_op op_add (pe_op op_mul (pv 0) pe_int) pe_int) (pv 2)) pa_nil)) (pe_c c__law_big_endian hr (by decide) rfl (pa_cons (pv 1) (pa_cons (pv 3) pa_nil))))))
    pss_nil))))
    (pss_one (ps_ret (pe_lstE pa_nil))))), ?_⟩)
  obtain ⟨_, _, rfl, m, n, rfl, rfl, h0, h1, h⟩ := h
  -- 0:major 1:number 2:k 3:many
  walk_at "rf"
  refine r_ite (fun c => ?_) (fun c => ?_)
  · rw [shH_low c] at h
    walk_at "rf"
    exact ⟨by show 1 ≤ sizeLine; decide, h⟩
  walk_at "rf"
  refine r_turns (by omega) (by omega) (fun i σ H' => Same H H' ∧ (1 ≤ i → 256 ≤ n) ∧ (2 ≤ i → 65536 ≤ n) ∧ (3 ≤ i → 4294967296 ≤ n) ∧ i ≤ 3 ∧ ∃ y2 y3 : Option V, σ = [some (.int m), some (.int n), y2, y3]) ⟨fun _ _ z => z, fun z => absurd z (by decide), fun z => absurd z (by decide), fun z => absurd z (by decide), by decide, _, _, rfl⟩ ?_ ?_
  · rintro i σ H2 hi ⟨s2, j1, j2, j3, hi3, y2, y3, rfl⟩
    walk_at "rf"
    refine ⟨by show 4 ≤ sizeLine; decide, fun q H3 nq g3 s3 => ?_⟩
    walk_at "rf"
    obtain ⟨wd, ewd, ewi⟩ : ∃ wd : Int, atI ([V.int 1, .int 2, .int 4, .int 8]) (i : Nat) = some (.int wd) ∧ wd = hdWd (24 + i) := by
      rcases (show i = 0 ∨ i = 1 ∨ i = 2 ∨ i = 3 by omega) with e | e | e | e <;> subst e <;> exact ⟨_, rfl, rfl⟩
    refine r_ixL (SqL.of g3) ewd ?_
    walk_at "rf"
    refine ⟨by show 4 ≤ sizeLine; decide, fun q4 H4 n4 g4 s4 => ?_⟩
    walk_at "rf"
    have g4 : H4 q4 = some (.lst (hb4.map V.int)) := g4
    obtain ⟨b, eb, hlt⟩ : ∃ b : Int, atI (hb4.map V.int) (i : Nat) = some (.int b) ∧ (n < b ↔ n < 256 ^ (hdWd (24 + i)).toNat) := by
      rcases (show i = 0 ∨ i = 1 ∨ i = 2 ∨ i = 3 by omega) with e | e | e | e <;> subst e <;> exact ⟨_, rfl, Iff.rfl⟩
    refine r_ixL (SqL.of g4) eb ?_
    walk_at "rf"
    have s24 := s2.trans (s3.trans s4)
    refine r_ite (fun c2 => ?_) (fun c2 => ?_)
    · have c2 := hlt.mp c2
      walk_at "rf"
      refine ⟨by show 1 ≤ sizeLine; decide, fun q5 H5 n5 g5 s5 => ?_⟩
      have g5 : H5 q5 = some (.lst (([m * 32 + 24 + i] : List Int).map V.int)) := g5
      have wl := wd_le (24 + i)
      have wn := hdWd_nn (24 + i)
      walk_at "rf"
      refine ⟨_, _, rfl, n, (hdWd (24 + i)).toNat, rfl, congrArg V.int (by rw [ewi]; omega), h0, by omega, fun q6 H6 n6 g6 s6 => ?_⟩
      refine r_catB (s6 _ _ g5) g6 (by rw [be_len]; show 1 + _ ≤ _; omega) fun q7 H7 n7 g7 s7 => ?_
      have ei : shI n = 24 + i := by
        unfold shI
        rw [if_neg c]
        rcases (show i = 0 ∨ i = 1 ∨ i = 2 ∨ i = 3 by omega) with e | e | e | e <;> subst e
        · have c2 : n < 256 := c2
          rw [if_pos c2]
          rfl
        · have c2 : n < 65536 := c2
          have := j1 (by decide)
          rw [if_neg (by omega), if_pos c2]
          rfl
        · have c2 : n < 4294967296 := c2
          have := j2 (by decide)
          rw [if_neg (by omega), if_neg (by omega), if_pos c2]
          rfl
        · have := j3 (by decide)
          rw [if_neg (by omega), if_neg (by omega), if_neg (by omega)]
          rfl
      refine h q7 H7 (((s24.trans s5).trans s6).free n7) ?_ (((s24.trans s5).trans s6).trans s7)
      rw [g7]
      unfold shH headI
      rw [ei, show m * 32 + (24 + (i : Int)) = m * 32 + 24 + i by omega]
      rfl
    · have c2 := fun z => c2 (hlt.mpr z)
      walk_at "rf"
      have q1 : i = 0 → ¬ n < 256 := fun e => by subst e; exact c2
      have q2 : i = 1 → ¬ n < 65536 := fun e => by subst e; exact c2
      have q3 : i = 2 → ¬ n < 4294967296 := fun e => by subst e; exact c2
      have q4 : i ≠ 3 := fun e => by subst e; exact c2 h1
      exact ⟨s24, fun _ => by omega, fun _ => by omega, fun _ => by omega, by omega, _, _, rfl⟩
  · rintro σ H2 ⟨s2, j1, j2, j3, hi3, y2, y3, rfl⟩
    exact absurd hi3 (by decide)
theorem ok__law_integer (F : FunD K "_law_integer" "_law_integer" (defArgs s__law_integer) (defBody s__law_integer) (defScope s__law_integer) [] [] (glAd "_law_integer" K) fd) (m : mg "_law_integer" = some (.ref (glAd "_law_integer" K))) (nb : Nm w K mg) (c__law_fewest : Cal P w K mg base 1 "_law_fewest" (sp__law_fewest K) []) (c__law_head : Cal P w K mg base 2 "_law_head" (sp__law_head K) []) : Cal P w K mg base 3 "_law_integer" (sp__law_integer K) [] := by
  refine calD F m sc__law_integer (fun _ _ _ _ _ _ us hl => match us, hl with | [_], _ => rfl) len1 (fun cdv A outer s H vs Q E hr h => ⟨_, (pss_cons (ps_set (i := 1) sc__law_integer.nd rfl (Or.inl rfl) (pe_callTy call_int1 (by rfl) nb.int (by decide +kernel) (pa_cons (pe_cmpR op_lt (pv 0) pe_int (nomark _)) pa_nil)))
    (pss_cut (ps_if (pt_cmpR op_eq (pv 1) pe_int (nomark _))
    (pss_one (ps_set (i := 0) sc__law_integer.nd rfl (Or.inl rfl) (pe_op op_sub (pe_un un_neg pe_int) (pv 0))))
    pss_nil)
    (pss_cons (ps_if (pt_cmpR op_lt (pv 0) (pe_op op_pow pe_int pe_int) (nomark _))
    (pss_one (ps_ret (pe_c c__law_head hr (by decide) rfl (pa_cons (pv 1) (pa_cons (pv 0) pa_nil)))))
    pss_nil)
    (pss_cons (ps_set (i := 2) sc__law_integer.nd rfl (Or.inl rfl) (pe_c c__law_fewest hr (by decide) rfl (pa_cons (pv 0) pa_nil)))
    (pss_one (ps_ret (pe_op op_cat (pe_op op_cat (pe_lstE (pa_cons (pe_op op_add pe_int (pv 1)) pa_nil)) (pe_c c__law_head hr (by decide) rfl (pa_cons pe_int (pa_cons (pe_callB call_len_seq (by rfl) nb.len PySem.boot_len (pa_cons (pv 2) pa_nil)) pa_nil)))) (pv 2)))))))), ?_⟩)
  obtain ⟨_, rfl, z, rfl, hz, h⟩ := h
  walk_at "rf"
  refine .inr ⟨_, rfl, ?_⟩
  walk_at "rf"
  obtain ⟨n0, fk⟩ : 0 ≤ (if z < 0 then -1 - z else z) ∧ fewK (if z < 0 then -1 - z else z) ≤ 840 := by
    have n0 : 0 ≤ (if z < 0 then -1 - z else z) := by split <;> omega
    refine ⟨n0, (few_le n0).mpr ?_⟩
    have e : ((256 ^ 840 : Nat) : Int) = (256 : Int) ^ 840 := Int.natCast_pow 256 840
    rw [← e]
    generalize (256 ^ 840 : Nat) = B at hz
    split <;> omega
  unfold intO at h
  refine r_cut (fun σ H' => H = H' ∧ σ = [some (.int (if z < 0 then -1 - z else z)), some (.int (if z < 0 then 1 else 0)), none]) ?_ ?_
  · walk_at "rf"
    by_cases c : z < 0
    · rw [if_pos c, if_pos (decide_eq_true c), if_pos c]
      walk_at "rf"
      refine r_itep rfl ?_
      walk_at "rf"
      exact ⟨rfl, rfl⟩
    · rw [if_neg c, if_neg (show ¬ decide (z < 0) = true by rw [decide_eq_false c]; decide), if_neg c]
      walk_at "rf"
      exact ⟨rfl, rfl⟩
  rintro σ _ ⟨rfl, rfl⟩
  have hmj : (if z < 0 then (3 : Int) else 2) = 2 + (if z < 0 then 1 else 0) := by split <;> rfl
  have hm1 : 0 ≤ (if z < 0 then (1 : Int) else 0) ∧ (if z < 0 then (1 : Int) else 0) ≤ 1 := by split <;> decide
  rw [hmj] at h
  generalize (if z < 0 then -1 - z else z) = n at n0 fk h ⊢
  generalize (if z < 0 then (1 : Int) else 0) = mj at hm1 h ⊢
  walk_at "rf"
  refine r_ite (fun c => ?_) (fun c => ?_)
  · have c : n < 18446744073709551616 := c
    rw [if_pos c] at h
    walk_at "rf"
    exact ⟨_, _, rfl, mj, n, rfl, rfl, n0, c, h⟩
  · have c : ¬ n < 18446744073709551616 := c
    rw [if_neg c] at h
    walk_at "rf"
    refine ⟨_, rfl, n, rfl, n0, by omega, fun p H1 np gp s1 => ?_⟩
    walk_at "rf"
    refine ⟨by show 1 ≤ sizeLine; decide, fun p2 H2 n2 g2 s2 => ?_⟩
    have eh : shH 6 (2 + mj) = [194 + mj] := by rw [shH_low (by omega)]; congr 1; omega
    rw [eh] at h
    have g2 : H2 p2 = some (.lst (([194 + mj] : List Int).map V.int)) := g2
    walk_at "rf"
    refine ⟨p, _, rfl, .inl (SqL.of (s2 _ _ gp)), ?_⟩
    rw [List.length_map]
    have fl := few_len n
    walk_at "rf"
    refine ⟨_, _, rfl, 2, ((few n).length : Nat), rfl, rfl, by omega, by omega, fun p3 H3 n3 g3 s3 => ?_⟩
    have l2 := shH_len 2 ((few n).length : Nat)
    refine r_catB (s3 _ _ g2) g3 (by show 1 + _ ≤ _; omega) fun p4 H4 n4 g4 s4 => ?_
    walk_at "rf"
    have s24 := (s2.trans s3).trans s4
    refine r_catB g4 (s24 _ _ gp) (by rw [List.length_append]; show 1 + _ + _ ≤ _; omega) fun p5 H5 n5 g5 s5 => ?_
    exact h p5 H5 ((s1.trans s24).free n5) g5 ((s1.trans s24).trans s5)
theorem ok__law_number_written (F : FunD K "_law_number_written" "_law_number_written" (defArgs s__law_number_written) (defBody s__law_number_written) (defScope s__law_number_written) [] [] (glAd "_law_number_written" K) fd) (m : mg "_law_number_written" = some (.ref (glAd "_law_number_written" K))) (nb : Nm w K mg) (c__law_integer : Cal P w K mg base 3 "_law_integer" (sp__law_integer K) []) : Cal P w K mg base 4 "_law_number_written" (sp__law_number_written K) [] := by
  refine calD F m sc__law_number_written (fun _ _ _ _ _ _ us hl => match us, hl with | [_, _], _ => rfl) len2 (fun cdv A outer s H vs Q E hr h => ⟨_, (pss_cons (ps_if (PW.pt (pw_and (pt_cmpR op_le pe_int (pv 1) (nomark _)) (pw_and1 (pt_cmpR op_le (pv 1) pe_int (nomark _)))))
    (pss_cons (ps_for PassesOwn.never rfl (pi_range1 rfl nb.range (pa_cons (pv 1) pa_nil)) (pg_name (i := 2) sc__law_number_written.nd rfl (Or.inl rfl))
    (pss_one (ps_set (i := 0) sc__law_number_written.nd rfl (Or.inl rfl) (pe_op op_mul (pv 0) pe_int))))
    (pss_one (ps_ret (pe_c c__law_integer hr (by decide) rfl (pa_cons (pv 0) pa_nil)))))
    pss_nil)
    (pss_one (ps_ret (pe_op op_cat (pe_op op_cat (pe_lstE (pa_cons pe_int (pa_cons pe_int pa_nil))) (pe_c c__law_integer hr (by decide) rfl (pa_cons (pv 1) pa_nil))) (pe_c c__law_integer hr (by decide) rfl (pa_cons (pv 0) pa_nil)))))), ?_⟩)
  obtain ⟨_, _, rfl, m, e, rfl, rfl, hm, e0, e1, h⟩ := h
  walk_at "rf"
  have hm4 := Nat.lt_of_lt_of_le hm (Nat.le_trans (pow10_le (b := 1950 + 64) (by decide)) b443)
  have he4 := Nat.lt_of_lt_of_le (show e.natAbs < 10 ^ 10 by omega) (Nat.le_trans (pow10_le (b := 1950 + 64) (by decide)) b443)
  have le := intO_len (Nat.lt_of_lt_of_le he4 (Nat.pow_le_pow_right (by decide) (by decide)))
  have lm := intO_len (Nat.lt_of_lt_of_le hm4 (Nat.pow_le_pow_right (by decide) (by decide)))
  refine r_ite (fun c => ?_) (fun c => ?_)
  · walk_at "rf"
    refine r_ite (fun c2 => ?_) (fun c2 => ?_)
    · walk_at "rf"
      have ec : numO m e = intO (m * 10 ^ e.toNat) := if_pos ⟨c, c2⟩
      rw [ec] at h
      refine r_turns (by omega) (by omega) (fun i σ H' => H = H' ∧ ∃ (y : Option V), σ = [some (.int (m * 10 ^ i)), some (.int e), y]) ⟨rfl, none, by rw [Int.pow_zero, Int.mul_one]; rfl⟩ ?_ ?_
      · rintro i σ _ hi ⟨rfl, y, rfl⟩
        walk_at "rf"
        exact ⟨rfl, _, by rw [Int.pow_succ, ← Int.mul_assoc] <;> rfl⟩
      · rintro σ _ ⟨rfl, y, rfl⟩
        walk_at "rf"
        refine ⟨_, rfl, _, rfl, ?_, h⟩
        rw [Int.natAbs_mul, natAbs10]
        refine Nat.lt_of_lt_of_le (Nat.mul_lt_mul_of_lt_of_le hm (pow10_le (a := e.toNat) (b := 64) (by omega)) (Nat.pow_pos (by decide))) ?_
        rw [← Nat.pow_add]
        exact b443
    · walk_at "rf"
      refine ⟨by show 2 ≤ sizeLine; decide, fun p3 H3 n3 g3 s3 => ?_⟩
      have ec : numO m e = [196, 130] ++ intO e ++ intO m := (if_neg fun z => c2 z.2).trans rfl
      rw [ec] at h
      have g3 : H3 p3 = some (.lst (([196, 130] : List Int).map V.int)) := g3
      walk_at "rf"
      refine ⟨_, rfl, e, rfl, he4, fun p4 H4 n4 g4 s4 => ?_⟩
      refine r_catB (s4 _ _ g3) g4 (by show 2 + _ ≤ _; omega) fun p5 H5 n5 g5 s5 => ?_
      walk_at "rf"
      refine ⟨_, rfl, m, rfl, hm4, fun p6 H6 n6 g6 s6 => ?_⟩
      refine r_catB (s6 _ _ g5) g6 (by rw [List.length_append]; show 2 + _ + _ ≤ _; omega) fun p7 H7 n7 g7 s7 => ?_
      have s17 := (s3.trans s4).trans (s5.trans s6)
      exact h p7 H7 (s17.free n7) g7 (s17.trans s7)
  · walk_at "rf"
    refine ⟨by show 2 ≤ sizeLine; decide, fun p3 H3 n3 g3 s3 => ?_⟩
    have ec : numO m e = [196, 130] ++ intO e ++ intO m := (if_neg fun z => c z.1).trans rfl
    rw [ec] at h
    have g3 : H3 p3 = some (.lst (([196, 130] : List Int).map V.int)) := g3
    walk_at "rf"
    refine ⟨_, rfl, e, rfl, he4, fun p4 H4 n4 g4 s4 => ?_⟩
    refine r_catB (s4 _ _ g3) g4 (by show 2 + _ ≤ _; omega) fun p5 H5 n5 g5 s5 => ?_
    walk_at "rf"
    refine ⟨_, rfl, m, rfl, hm4, fun p6 H6 n6 g6 s6 => ?_⟩
    refine r_catB (s6 _ _ g5) g6 (by rw [List.length_append]; show 2 + _ + _ ≤ _; omega) fun p7 H7 n7 g7 s7 => ?_
    have s17 := (s3.trans s4).trans (s5.trans s6)
    exact h p7 H7 (s17.free n7) g7 (s17.trans s7)
theorem ok__law_text (F : FunD K "_law_text" "_law_text" (defArgs s__law_text) (defBody s__law_text) (defScope s__law_text) [] [] (glAd "_law_text" K) fd) (m : mg "_law_text" = some (.ref (glAd "_law_text" K))) (nb : Nm w K mg) (c__law_utf8 : Cal P w K mg base 1 "_law_utf8" (sp__law_utf8 K) []) (c__law_head : Cal P w K mg base 2 "_law_head" (sp__law_head K) []) : Cal P w K mg base 3 "_law_text" (sp__law_text K) [] := by
  refine calD F m sc__law_text (fun _ _ _ _ _ _ us hl => match us, hl with | [_], _ => rfl) len1 (fun cdv A outer s H vs Q E hr h => ⟨_, (pss_cons (ps_set (i := 1) sc__law_text.nd rfl (Or.inl rfl) (pe_c c__law_utf8 hr (by decide) rfl (pa_cons (pv 0) pa_nil)))
    (pss_one (ps_ret (pe_op op_cat (pe_c c__law_head hr (by decide) rfl (pa_cons pe_int (pa_cons (pe_callB call_len_seq (by rfl) nb.len PySem.boot_len (pa_cons (pv 1) pa_nil)) pa_nil))) (pv 1))))), ?_⟩)
  obtain ⟨_, rfl, p, ps, rfl, hp, kl, kp, h⟩ := h
  walk_at "rf"
  refine ⟨_, rfl, p, ps, rfl, hp, kl, fun l H1 nl gl s1 => ?_⟩
  walk_at "rf"
  refine ⟨l, _, rfl, .inl (SqL.of gl), ?_⟩
  rw [List.length_map]
  have el := len_encs ps
  walk_at "rf"
  refine ⟨_, _, rfl, 3, ((encs ps).length : Nat), rfl, rfl, by omega, by omega, fun q H2 n2 g2 s2 => ?_⟩
  walk_at "rf"
  refine r_catB g2 (s2 _ _ gl) (by have := shH_len 3 ((encs ps).length : Nat); omega) fun q4 H4 n4 g4 s4 => ?_
  exact h q4 H4 ((s1.trans s2).free n4) g4 ((s1.trans s2).trans s4)
theorem ok__law_leaf_written (F : FunD K "_law_leaf_written" "_law_leaf_written" (defArgs s__law_leaf_written) (defBody s__law_leaf_written) (defScope s__law_leaf_written) [] [] (glAd "_law_leaf_written" K) fd) (m : mg "_law_leaf_written" = some (.ref (glAd "_law_leaf_written" K))) (nb : Nm w K mg) (c__law_head : Cal P w K mg base 2 "_law_head" (sp__law_head K) []) (c__law_number_written : Cal P w K mg base 4 "_law_number_written" (sp__law_number_written K) []) (c__law_text : Cal P w K mg base 3 "_law_text" (sp__law_text K) []) : Cal P w K mg base 5 "_law_leaf_written" (sp__law_leaf_written K) [] := by
  refine calD F m sc__law_leaf_written (fun _ _ _ _ _ _ us hl => match us, hl with | [_], _ => rfl) len1 (fun cdv A outer s H vs Q E hr h => ⟨_, (pss_cons (ps_if (pt_cmpR op_eq (pe_ix ix_tup (pv 0) pe_int (fun _ _ => rfl)) pe_str (nomark _))
    (pss_one (ps_ret (pe_lstE (pa_cons pe_int pa_nil))))
    pss_nil)
    (pss_cons (ps_if (pt_cmpR op_eq (pe_ix ix_tup (pv 0) pe_int (fun _ _ => rfl)) pe_str (nomark _))
    (pss_one (ps_ret (pe_lstE (pa_cons (pe_op op_add pe_int (pe_callTy call_int1 (by rfl) nb.int (by decide +kernel) (pa_cons (pe_ix ix_tup (pv 0) pe_int (fun _ _ => rfl)) pa_nil))) pa_nil))))
    pss_nil)
    (pss_cons (ps_if (pt_cmpR op_eq (pe_ix ix_tup (pv 0) pe_int (fun _ _ => rfl)) pe_str (nomark _))
    (pss_one (ps_ret (pe_c c__law_number_written hr (by decide) rfl (pa_cons (pe_ix ix_tup (pv 0) pe_int (fun _ _ => rfl)) (pa_cons (pe_ix ix_tup (pv 0) pe_int (fun _ _ => rfl)) pa_nil)))))
    pss_nil)
    (pss_cons (ps_if (pt_cmpR op_eq (pe_ix ix_tup (pv 0) pe_int (fun _ _ => rfl)) pe_str (nomark _))
    (pss_one (ps_ret (pe_op op_cat (pe_c c__law_head hr (by decide) rfl (pa_cons pe_int (pa_cons (pe_callB call_len_seq (by rfl) nb.len PySem.boot_len (pa_cons (pe_ix ix_tup (pv 0) pe_int (fun _ _ => rfl)) pa_nil)) pa_nil))) (pe_callTy call_list_ofE (by rfl) nb.list (by decide +kernel) (pa_cons (pe_ix ix_tup (pv 0) pe_int (fun _ _ => rfl)) pa_nil)))))
    pss_nil)
    (pss_one (ps_ret (pe_c c__law_text hr (by decide) rfl (pa_cons (pe_ix ix_tup (pv 0) pe_int (fun _ _ => rfl)) pa_nil)))))))), ?_⟩)
  obtain ⟨_, rfl, a, k, ws, r, rfl, ha, hw, lb, h⟩ := h
  cases lb with
  | number m e hm h0 h1 =>
    have ew := tpI2 hw
    subst ew
    walk_at "rf"
    refine r_ixT ha.sq (atI_nat (j := 0) rfl) ?_
    walk_at "rf"
    refine r_iteN (show ¬ ("number" : Str) = "null" by decide +kernel) ?_
    walk_at "rf"
    refine r_ixT ha.sq (atI_nat (j := 0) rfl) ?_
    walk_at "rf"
    refine r_iteN (show ¬ ("number" : Str) = "truth" by decide +kernel) ?_
    walk_at "rf"
    refine r_ixT ha.sq (atI_nat (j := 0) rfl) ?_
    walk_at "rf"
    refine r_ite (fun _ => ?_) (fun c => absurd rfl c)
    walk_at "rf"
    refine r_ixT ha.sq (atI_nat (j := 1) rfl) ?_
    walk_at "rf"
    refine r_ixT ha.sq (atI_nat (j := 2) rfl) ?_
    walk_at "rf"
    exact ⟨_, _, rfl, m, e, rfl, rfl, hm, h0, h1, h⟩
  | bytes os ho =>
    obtain ⟨t0, rfl, ht⟩ := tpT1 hw
    rw [lfO_bytes] at h
    walk_at "rf"
    refine r_ixT ha.sq (atI_nat (j := 0) rfl) ?_
    walk_at "rf"
    refine r_iteN (show ¬ ("bytes" : Str) = "null" by decide +kernel) ?_
    walk_at "rf"
    refine r_ixT ha.sq (atI_nat (j := 0) rfl) ?_
    walk_at "rf"
    refine r_iteN (show ¬ ("bytes" : Str) = "truth" by decide +kernel) ?_
    walk_at "rf"
    refine r_ixT ha.sq (atI_nat (j := 0) rfl) ?_
    walk_at "rf"
    refine r_iteN (show ¬ ("bytes" : Str) = "number" by decide +kernel) ?_
    walk_at "rf"
    refine r_ixT ha.sq (atI_nat (j := 0) rfl) ?_
    walk_at "rf"
    refine r_ite (fun _ => ?_) (fun c => absurd rfl c)
    walk_at "rf"
    refine r_ixT ha.sq (atI_nat (j := 1) rfl) ?_
    walk_at "rf"
    refine ⟨t0, _, rfl, .inr (SqT.of ht), ?_⟩
    rw [List.length_map]
    walk_at "rf"
    refine ⟨_, _, rfl, 2, (os.length : Nat), rfl, rfl, by omega, by omega, fun p1 H1 n1 g1 s1 => ?_⟩
    walk_at "rf"
    refine r_ixT (ha.same s1).sq (atI_nat (j := 1) rfl) ?_
    walk_at "rf"
    refine r_toLt (same_tup s1 (SqT.of ht)) fun p2 H2 n2 g2 s2 => ?_
    have l1 := shH_len 2 (os.length : Nat)
    refine r_catB (s2 _ _ g1) g2 (by omega) fun p3 H3 n3 g3 s3 => ?_
    exact h p3 H3 ((s1.trans s2).free n3) g3 ((s1.trans s2).trans s3)
  | text ps hl hp =>
    obtain ⟨t0, rfl, ht⟩ := tpT1 hw
    rw [lfO_text] at h
    walk_at "rf"
    refine r_ixT ha.sq (atI_nat (j := 0) rfl) ?_
    walk_at "rf"
    refine r_iteN (show ¬ ("text" : Str) = "null" by decide +kernel) ?_
    walk_at "rf"
    refine r_ixT ha.sq (atI_nat (j := 0) rfl) ?_
    walk_at "rf"
    refine r_iteN (show ¬ ("text" : Str) = "truth" by decide +kernel) ?_
    walk_at "rf"
    refine r_ixT ha.sq (atI_nat (j := 0) rfl) ?_
    walk_at "rf"
    refine r_iteN (show ¬ ("text" : Str) = "number" by decide +kernel) ?_
    walk_at "rf"
    refine r_ixT ha.sq (atI_nat (j := 0) rfl) ?_
    walk_at "rf"
    refine r_iteN (show ¬ ("text" : Str) = "bytes" by decide +kernel) ?_
    walk_at "rf"
    refine r_ixT ha.sq (atI_nat (j := 1) rfl) ?_
    walk_at "rf"
    exact ⟨_, rfl, t0, ps, rfl, ht, hl, hp, h⟩
  | truth b =>
    obtain rfl : ws = [.bl b] := by
      cases hw with
      | cons h1 h2 =>
        cases h1
        cases h2
        rfl
    walk_at "rf"
    refine r_ixT ha.sq (atI_nat (j := 0) rfl) ?_
    walk_at "rf"
    refine r_iteN (show ¬ ("truth" : Str) = "null" by decide +kernel) ?_
    walk_at "rf"
    refine r_ixT ha.sq (atI_nat (j := 0) rfl) ?_
    walk_at "rf"
    refine r_ite (fun _ => ?_) (fun c => absurd rfl c)
    walk_at "rf"
    refine r_ixT ha.sq (atI_nat (j := 1) rfl) ?_
    walk_at "rf"
    refine .inr ⟨_, rfl, ?_⟩
    walk_at "rf"
    exact ⟨by show 1 ≤ sizeLine; decide, h⟩
  | null =>
    walk_at "rf"
    refine r_ixT ha.sq (atI_nat (j := 0) rfl) ?_
    walk_at "rf"
    refine r_ite (fun _ => ?_) (fun c => absurd rfl c)
    walk_at "rf"
    exact ⟨by show 1 ≤ sizeLine; decide, h⟩
end

/-! ### what stays when the tables of lambdas grow -/
def TbL (K : Frg) (H : Hp) : Prop := LamX.Tabs (tbsOf K lamsL) H
def Xt (K : Frg) (H H' : Hp) : Prop := LamX.ExtN H H' ∧ TbL K H'
/-- nothing but a table stands there -/
def Fr9 (H : Hp) (p : Addr) : Prop := ∀ b u, H b = some u → (∀ ps, u ≠ .tbl ps) → b ≠ p
theorem fr_none {H : Hp} {p : Addr} (h : H p = none) : Fr9 H p := fun b u e _ z => by
  rw [z, h] at e
  cases e
theorem Fr9.back {H H1 : Hp} {p : Addr} (e : LamX.ExtN H H1) (h : Fr9 H1 p) : Fr9 H p := fun b u g n => h b u (e b u g n) n
theorem ext_same {H H1 H2 : Hp} (a : LamX.ExtN H H1) (b : Same H1 H2) : LamX.ExtN H H2 := fun c o h n => b _ _ (a c o h n)
theorem ext_of {H H1 : Hp} (b : Same H H1) : LamX.ExtN H H1 := fun c o h _ => b _ _ h
theorem Xt.trans {K : Frg} {A B C : Hp} (a : Xt K A B) (b : Xt K B C) : Xt K A C := ⟨a.1.trans b.1, b.2⟩
theorem Xt.same {K : Frg} {A B C : Hp} (a : Xt K A B) (s : Same B C) : Xt K A C := ⟨ext_same a.1 s, a.2.ext s⟩
theorem Xt.of {K : Frg} {A B : Hp} (t : TbL K A) (s : Same A B) : Xt K A B := ⟨ext_of s, t.ext s⟩
theorem Xt.lst {K : Frg} {A B : Hp} {a : Addr} {xs : List V} (x : Xt K A B) (h : A a = some (.lst xs)) : B a = some (.lst xs) := x.1 _ _ h fun ps z => by cases z
theorem Xt.tup {K : Frg} {A B : Hp} {a : Addr} {xs : List V} (x : Xt K A B) (h : A a = some (.tup xs)) : B a = some (.tup xs) := x.1 _ _ h fun ps z => by cases z
theorem Xt.tk {K : Frg} {A B : Hp} (x : Xt K A B) : Tk A B := fun _ _ h => x.tup h
theorem Xt.back {K : Frg} {A B : Hp} {p : Addr} (x : Xt K A B) (h : B p = none) : Fr9 A p := (fr_none h).back x.1
/-- a list of one's own is changed -/
theorem Xt.put {K : Frg} {A B C : Hp} {p : Addr} {xs : List V} (x : Xt K A B) (f : Fr9 A p) (g : B p = some (.lst xs)) (k : ∀ c o, c ≠ p → B c = some o → C c = some o) : Xt K A C := by
  refine ⟨fun b u h n => k b u (f b u h n) (x.1 b u h n), fun q hq => ?_⟩
  obtain ⟨ps, h1, h2, h3⟩ := x.2 q hq
  refine ⟨ps, k _ _ (fun z => by rw [z, g] at h1; cases h1) h1, h2, fun pos cv hc => ?_⟩
  obtain ⟨c, e1, e2⟩ := h3 pos cv hc
  refine ⟨c, e1, k _ _ (fun z => ?_) e2⟩
  rw [z, g] at e2
  cases e2
/-- new octets, the tables may have grown -/
def OutX (K : Frg) (H : Hp) (xs : List Int) (Q : VK) : Prop := ∀ (p : Addr) (H' : Hp), Fr9 H p → H' p = some (.lst (xs.map V.int)) → Xt K H H' → Q (.ref p) H'
theorem OutX.out {K : Frg} {H : Hp} {xs : List Int} {Q : VK} (h : OutX K H xs Q) (t : TbL K H) : Out H xs Q := fun p H' n g s => h p H' (fr_none n) g (Xt.of t s)
theorem OutX.xt {K : Frg} {H H1 : Hp} {xs : List Int} {Q : VK} (h : OutX K H xs Q) (x : Xt K H H1) : OutX K H1 xs Q := fun p H' n g s => h p H' (n.back x.1) g (x.trans s)
theorem new_o {H : Hp} {p : Addr} {o : HO} (hp : H p = none) : ∃ H', upd H p o = H' ∧ Same H H' ∧ H' p = some o := ⟨_, rfl, same_upd hp o, upd_same⟩
/-! ### the octets of a value -/
def rowLe (p q : List Int) : Bool := decide (p ≤ q)
mutual
def octV : Vl → List Int
  | .lf k r => lfO k r
  | .ls xs => shH 4 (xs.length : Nat) ++ octL xs
  | .mp es => shH 5 (es.length : Nat) ++ ((octP es).mergeSort (fun x y => rowLe x.1 y.1)).flatMap fun p => p.1 ++ p.2
def octL : List Vl → List Int
  | [] => []
  | x :: xs => octV x ++ octL xs
def octP : List (List Int × Vl) → List (List Int × List Int)
  | [] => []
  | (k, v) :: es => (txtO k, octV v) :: octP es
end
theorem octP_map : ∀ es : List (List Int × Vl), octP es = es.map fun e => (txtO e.1, octV e.2)
  | [] => rfl
  | (k, v) :: es => by
    show (txtO k, octV v) :: octP es = _
    rw [octP_map es]
    rfl
/-- the entries in the order of their keys' octets -/
def srtE (es : List (List Int × Vl)) : List (List Int × Vl) := es.mergeSort fun x y => rowLe (txtO x.1) (txtO y.1)
def octM (es : List (List Int × Vl)) : List Int := es.flatMap fun e => txtO e.1 ++ octV e.2
theorem octV_mp (es : List (List Int × Vl)) : octV (.mp es) = shH 5 (es.length : Nat) ++ octM (srtE es) := by
  have em := List.map_mergeSort (r := fun x y : List Int × Vl => rowLe (txtO x.1) (txtO y.1)) (s := fun x y : List Int × List Int => rowLe x.1 y.1) (f := fun e : List Int × Vl => (txtO e.1, octV e.2)) (l := es) fun a _ b _ => rfl
  show shH 5 (es.length : Nat) ++ ((octP es).mergeSort (fun x y => rowLe x.1 y.1)).flatMap (fun p => p.1 ++ p.2) = _
  rw [octP_map, ← em]
  unfold octM srtE
  rw [List.flatMap_map]
theorem srtE_perm (es : List (List Int × Vl)) : (srtE es).Perm es := List.mergeSort_perm _ _
theorem octL_app : ∀ xs ys : List Vl, octL (xs ++ ys) = octL xs ++ octL ys
  | [], ys => rfl
  | x :: xs, ys => by
    show octV x ++ octL (xs ++ ys) = octV x ++ octL xs ++ octL ys
    rw [octL_app xs ys, List.append_assoc]
theorem octL_take {xs : List Vl} {i : Nat} {x : Vl} (h : xs[i]? = some x) : octL (xs.take (i + 1)) = octL (xs.take i) ++ octV x := by
  rw [List.take_add_one, h, octL_app]
  congr 1
  exact List.append_nil _
theorem octL_le : ∀ (xs : List Vl) (i : Nat), (octL (xs.take i)).length ≤ (octL xs).length
  | [], i => by rw [List.take_nil]; exact Nat.le_refl _
  | x :: xs, 0 => Nat.zero_le _
  | x :: xs, i + 1 => by
    show (octV x ++ octL (xs.take i)).length ≤ (octV x ++ octL xs).length
    rw [List.length_append, List.length_append]
    have := octL_le xs i
    omega
theorem octV_le {xs : List Vl} {i : Nat} {x : Vl} (h : xs[i]? = some x) : (octL (xs.take i)).length + (octV x).length ≤ (octL xs).length := by
  have q := octL_le xs (i + 1)
  rw [octL_take h, List.length_append] at q
  exact q
theorem octM_app (a b : List (List Int × Vl)) : octM (a ++ b) = octM a ++ octM b := List.flatMap_append
theorem octM_take {es : List (List Int × Vl)} {i : Nat} {e : List Int × Vl} (h : es[i]? = some e) : octM (es.take (i + 1)) = octM (es.take i) ++ (txtO e.1 ++ octV e.2) := by
  rw [List.take_add_one, h, octM_app]
  congr 1
  exact List.append_nil _
theorem octM_le (es : List (List Int × Vl)) (i : Nat) : (octM (es.take i)).length ≤ (octM es).length := by
  have e : es = es.take i ++ es.drop i := (List.take_append_drop i es).symm
  have q := congrArg (fun l => (octM l).length) e
  simp only [octM_app, List.length_append] at q
  omega
theorem octW_le {es : List (List Int × Vl)} {i : Nat} {e : List Int × Vl} (h : es[i]? = some e) : (octM (es.take i)).length + ((txtO e.1).length + (octV e.2).length) ≤ (octM es).length := by
  have q := octM_le es (i + 1)
  rw [octM_take h, List.length_append, List.length_append] at q
  exact q

/-! ### the writer of CBOR, and the law's own -/



theorem r_extC {a b : Addr} {xs ys : List Int} {H : Hp} {Q : VK} (h1 : H a = some (.lst (xs.map V.int))) (h2 : H b = some (.lst (ys.map V.int))) (hl : xs.length + ys.length ≤ 16700000) (h : ∀ H', H' a = some (.lst ((xs ++ ys).map V.int)) → (∀ c o, c ≠ a → H c = some o → H' c = some o) → Q .non H') : rExtend (.ref a) [.ref b] H Q :=
  ⟨a, b, _, _, rfl, rfl, h1, h2, by rw [List.length_map, List.length_map]; exact Nat.le_trans hl (by decide), h _ (by rw [upd_same, cat_ints]) fun c o n e => (upd_ne n).trans e⟩
theorem same_on {H H1 H2 : Hp} {p : Addr} (s : Same H H1) (np : H p = none) (k : ∀ c o, c ≠ p → H1 c = some o → H2 c = some o) : Same H H2 := fun b o e => k b o (fun z => by rw [z, np] at e; cases e) (s b o e)
theorem num_in {m e : Int} (z : lackK "number" [.int m, .int e] = false) : -1000000000 ≤ e ∧ e ≤ 1000000000 := by
  have el : lackK "number" [.int m, .int e] = !(decide (-1000000000 ≤ e) && decide (e ≤ 1000000000)) := if_pos rfl
  rw [el] at z
  simpa using z
theorem num_lc {k : Str} {r : List PyData} (h : Lc k r) : NumK k r := fun z => by
  cases h with
  | number m e _ => exact ⟨m, e, rfl⟩
  | _ => exact absurd z (by decide +kernel)
theorem lg_lb {k : Str} {r : List PyData} (h : Lc k r) (z : lackK k r = false) : Lb k r := by
  cases h with
  | number m e nk =>
    obtain ⟨h0, h1⟩ := num_in z
    exact .number m e nk.2.1 h0 h1
  | bytes os ho => exact .bytes os ho.1
  | text ps hp => exact .text ps hp.1 hp.2
  | truth b => exact .truth b
  | null => exact .null
def Full (d : Vl) : Prop := ∀ x ∈ preV d, lackV x = false
theorem preL_mem : ∀ {xs : List Vl} {x y : Vl}, x ∈ xs → y ∈ preV x → y ∈ preL xs
  | [], x, _, h, _ => absurd h (by simp)
  | z :: zs, x, y, h, hy => by
    rcases List.mem_cons.mp h with e | e
    · subst e
      exact List.mem_append_left _ hy
    · exact List.mem_append_right _ (preL_mem e hy)
theorem Full.item {xs : List Vl} (h : Full (.ls xs)) {x : Vl} (hx : x ∈ xs) : Full x := fun y hy => h y (List.mem_cons_of_mem _ (preL_mem hx hy))
theorem Full.part {es : List (List Int × Vl)} (h : Full (.mp es)) {e : List Int × Vl} (he : e ∈ es) : Full e.2 := fun y hy => h y (List.mem_cons_of_mem _ (by
  rw [preM_eq, ← preL_eq]
  exact preL_mem (List.mem_map_of_mem he) hy))
theorem Full.leaf {n : Nat} {k : Str} {r : List PyData} (g : (Vl.lf k r).gf n) (h : Full (.lf k r)) : Lb k r := lg_lb (by cases n <;> exact g) (h _ (List.mem_cons_self ..))
def sp_wr (K : Frg) (n : Nat) : Sp := sp1 fun a H Q _ => ∃ (d : Vl) (m : Nat), Tp H a d.dat ∧ d.gf m ∧ Full d ∧ m < n ∧ (octV d).length ≤ 16000000 ∧ Out H (octV d) Q
def sp__octets_of (K : Frg) (n : Nat) : Sp := sp1 fun a H Q _ => ∃ (d : Vl) (m : Nat), Tp H a d.dat ∧ d.gf m ∧ Full d ∧ m < n ∧ (octV d).length ≤ 16000000 ∧ TbL K H ∧ OutX K H (octV d) Q
def sp__law_written (K : Frg) (n : Nat) : Sp := sp_wr K n
theorem no__law_written {K : Frg} {vs : List V} {H : Hp} {Q : VK} {E : XK} (h : sp__law_written K 0 vs H Q E) : False := by
  obtain ⟨_, _, d, m, _, _, _, h, _⟩ := h
  exact absurd h (Nat.not_lt_zero _)
theorem no__octets_of {K : Frg} {vs : List V} {H : Hp} {Q : VK} {E : XK} (h : sp__octets_of K 0 vs H Q E) : False := by
  obtain ⟨_, _, d, m, _, _, _, h, _⟩ := h
  exact absurd h (Nat.not_lt_zero _)
/-- a key's octets beside its value -/
def InAt (H0 H : Hp) (v : V) (en : List Int × Vl) : Prop := ∃ (c q : Addr) (u : V), v = .ref c ∧ H c = some (.tup [.ref q, u]) ∧ H q = some (.lst ((txtO en.1).map V.int)) ∧ Tp H u en.2.dat ∧ Fr9 H0 q
def sp__in_order (K : Frg) : Sp := sp1 fun a H Q _ => ∃ (b : Addr) (vs : List V) (es : List (List Int × Vl)), a = .ref b ∧ H b = some (.tup vs) ∧ TpAll H vs (datM es) ∧ es.length ≤ 49 ∧ (∀ e ∈ es, Kp e.1) ∧ TbL K H ∧
  ∀ (p : Addr) (ws : List V) (H' : Hp), Fr9 H p → H' p = some (.lst ws) → Xt K H H' → Paired (InAt H H') ws (srtE es) → Q (.ref p) H'
def encL (k : List Int) : PyData := .list (k.map PyData.int)
theorem depth_encL (k : List Int) : (encL k).depth ≤ 1 := by
  have e := PySem.W.depth_ints k
  show PyData.depthAll (k.map PyData.int) + 1 ≤ 1
  rw [show PyData.depthAll (k.map PyData.int) = 0 from e]
  exact Nat.le_refl _
theorem le_rowLe : PySem.W.dataLe false encL = rowLe := PySem.W.dataLe_rows fun k => k
theorem InAt.ext {K : Frg} {H0 H H' : Hp} {v : V} {en : List Int × Vl} (x : Xt K H H') (h : InAt H0 H v en) : InAt H0 H' v en := by
  obtain ⟨c, q, u, e, h1, h2, h3, h4⟩ := h
  exact ⟨c, q, u, e, x.tup h1, x.lst h2, Tp.tk x.tk _ _ h3, h4⟩
theorem InAt.extN {H0 H H' : Hp} {v : V} {en : List Int × Vl} (x : LamX.ExtN H H') (h : InAt H0 H v en) : InAt H0 H' v en := by
  obtain ⟨c, q, u, e, h1, h2, h3, h4⟩ := h
  exact ⟨c, q, u, e, x _ _ h1 (fun ps z => by cases z), x _ _ h2 (fun ps z => by cases z), Tp.tk (fun _ _ g => x _ _ g (fun ps z => by cases z)) _ _ h3, h4⟩
theorem InAt.same {H0 H H' : Hp} {v : V} {en : List Int × Vl} (s : Same H H') (h : InAt H0 H v en) : InAt H0 H' v en := InAt.extN (ext_of s) h
theorem InAt.put {H0 H : Hp} {D : Addr} {v : V} {en : List Int × Vl} {ws us : List V} (g : H D = some (.lst ws)) (h : InAt H0 H v en) (hq : ∀ (q : Addr), H q = some (.lst ((txtO en.1).map V.int)) → Fr9 H0 q → q ≠ D) : InAt H0 (upd H D (.lst us)) v en := by
  obtain ⟨c, q, u, e, h1, h2, h3, h4⟩ := h
  have hc : c ≠ D := fun z => by rw [z, g] at h1; cases h1
  exact ⟨c, q, u, e, (upd_ne hc).trans h1, (upd_ne (hq q h2 h4)).trans h2, Tp.tk (fun a xs t => (upd_ne (fun z => by rw [z, g] at t; cases t)).trans t) _ _ h3, h4⟩
/-- the same while the list D is being filled -/
def InD (H0 : Hp) (D : Addr) (H : Hp) (v : V) (en : List Int × Vl) : Prop := ∃ (c q : Addr) (u : V), v = .ref c ∧ H c = some (.tup [.ref q, u]) ∧ H q = some (.lst ((txtO en.1).map V.int)) ∧ Tp H u en.2.dat ∧ Fr9 H0 q ∧ q ≠ D
theorem InD.same {H0 H H' : Hp} {D : Addr} {v : V} {en : List Int × Vl} (s : Same H H') (h : InD H0 D H v en) : InD H0 D H' v en := by
  obtain ⟨c, q, u, e, h1, h2, h3, h4⟩ := h
  exact ⟨c, q, u, e, s _ _ h1, s _ _ h2, Tp.tk (Same.tk s) _ _ h3, h4⟩
theorem InD.put {H0 H : Hp} {D : Addr} {v : V} {en : List Int × Vl} {ws us : List V} (g : H D = some (.lst ws)) (h : InD H0 D H v en) : InD H0 D (upd H D (.lst us)) v en := by
  obtain ⟨c, q, u, e, h1, h2, h3, h4, h5⟩ := h
  have hc : c ≠ D := fun z => by rw [z, g] at h1; cases h1
  exact ⟨c, q, u, e, (upd_ne hc).trans h1, (upd_ne h5).trans h2, Tp.tk (fun a xs t => (upd_ne (fun z => by rw [z, g] at t; cases t)).trans t) _ _ h3, h4, h5⟩
theorem InD.at {H0 H : Hp} {D : Addr} {v : V} {en : List Int × Vl} (h : InD H0 D H v en) : InAt H0 H v en := by
  obtain ⟨c, q, u, e, h1, h2, h3, h4, _⟩ := h
  exact ⟨c, q, u, e, h1, h2, h3, h4⟩
theorem keyK_ok (ks : List (List Int)) : (PySem.W.AllAlike (ks.map encL) ∧ PySem.W.Sortable (ks.map encL)) ∧ ∀ d ∈ ks.map encL, d.depth ≤ 40 := by
  refine ⟨⟨PySem.W.AllAlike.of fun b b' => PySem.W.alike_ints b b', PySem.W.Sortable.others fun b => ⟨(fun z => by cases z), (fun xs z => by cases z)⟩⟩, fun d hd => ?_⟩
  obtain ⟨b, _, rfl⟩ := List.mem_map.mp hd
  exact Nat.le_trans (depth_encL b) (by decide)
theorem dp_list {K : Frg} {H : Hp} {q : Addr} {ns : List Int} (h : H q = some (.lst (ns.map V.int))) : Dp K H (.ref q) (encL ns) := .lst (SqL.of h) (dpa_ints ns)
theorem paired_imp {α β : Type} {R S : α → β → Prop} (f : ∀ a b, R a b → S a b) : ∀ {xs : List α} {ys : List β}, Paired R xs ys → Paired S xs ys
  | _, _, .nil => .nil
  | _, _, .cons r t => .cons (f _ _ r) (paired_imp f t)
theorem paired_zip {α β : Type} {R : α → β → Prop} : ∀ {xs : List α} {ys : List β}, Paired R xs ys → ∀ z ∈ xs.zip ys, R z.1 z.2
  | _, _, .nil, z, hz => by cases hz
  | _, _, .cons r t, z, hz => by
    rw [List.zip_cons_cons] at hz
    rcases List.mem_cons.mp hz with e | e
    · rw [e]
      exact r
    · exact paired_zip t z e
/-- the references in the order of their keys -/
theorem paired_srt {R : V → List Int × Vl → Prop} {ws : List V} {es : List (List Int × Vl)} (h : Paired R ws es) : Paired R (srtK ws ((es.map fun e => txtO e.1).map encL)) (srtE es) := by
  have hl := Paired.length h
  -- both sides come from the pairs, sorted
  have e1 : ws.zip ((es.map fun e => txtO e.1).map encL) = (ws.zip es).map fun z => ((z.1, encL (txtO z.2.1)) : KeyB) := by
    rw [List.map_map]
    clear h
    induction ws generalizing es with
    | nil => rfl
    | cons x xs ih =>
      cases es with
      | nil => rfl
      | cons e es =>
        simp only [List.map_cons, List.zip_cons_cons]
        rw [ih (by simpa using hl)]
        rfl
  have e2 : (ws.zip es).map (fun z => z.2) = es := by
    rw [List.map_snd_zip]
    omega
  have m1 := List.map_mergeSort (r := fun x y : V × (List Int × Vl) => rowLe (txtO x.2.1) (txtO y.2.1)) (s := PySem.W.dataLe false fun b : KeyB => b.2) (f := fun z => ((z.1, encL (txtO z.2.1)) : KeyB)) (l := ws.zip es) fun a _ b _ => by
    have e := congrFun (congrFun le_rowLe (txtO a.2.1)) (txtO b.2.1)
    exact e.symm
  have m2 := List.map_mergeSort (r := fun x y : V × (List Int × Vl) => rowLe (txtO x.2.1) (txtO y.2.1)) (s := fun x y : List Int × Vl => rowLe (txtO x.1) (txtO y.1)) (f := fun z => z.2) (l := ws.zip es) fun a _ b _ => rfl
  unfold srtK srtE
  rw [e1, ← m1, List.map_map]
  rw [e2] at m2
  rw [← m2]
  have all : ∀ z ∈ (ws.zip es).mergeSort (fun x y : V × (List Int × Vl) => rowLe (txtO x.2.1) (txtO y.2.1)), R z.1 z.2 := fun z hz => paired_zip h z ((List.mergeSort_perm _ _).mem_iff.mp hz)
  generalize (ws.zip es).mergeSort (fun x y : V × (List Int × Vl) => rowLe (txtO x.2.1) (txtO y.2.1)) = l at all ⊢
  induction l with
  | nil => exact .nil
  | cons z l ih => exact .cons (all z (List.mem_cons_self ..)) (ih fun y hy => all y (List.mem_cons_of_mem _ hy))
section
variable {P : Program} {w : World} {K : PySem.W.Frag} {mg : Str → Option Value} {base : Heap} {f : Addr} {fd : FuncData}
theorem ok__in_order (F : FunD K "_in_order" "_in_order" (defArgs s__in_order) (defBody s__in_order) (defScope s__in_order) [] [] (glAd "_in_order" K) fd) (m : mg "_in_order" = some (.ref (glAd "_in_order" K))) (nb : Nm w K mg) (TB : ∀ q, q ∈ lamsL → LamX.TabB base mg (codeAt K (glAd q K)) (tabAt K q)) (lamN : (lamsL.map (tabAt K)).Nodup) (c_key_octets : Cal P w K mg base 3 "key_octets" (sp_key_octets K) []) : Cal P w K mg base 7 "_in_order" (sp__in_order K) [] := by
  refine calDT F m sc__in_order (fun _ _ _ _ _ _ us hl => match us, hl with | [_], _ => rfl) len1 (fun cdv hc A outer s H vs Q E hr h => ⟨_, (pss_cons (ps_setLc (i := 1) (own := [("key", 2), ("part", 3)]) (g := (gTup K 2 (gCons (gName 2) (gCons (gName 3) gNil)))) (tt := tYes) rfl sc__in_order.nd rfl rfl (sw_true rfl rfl rfl (by decide +kernel)) (pi_tup (pv 0)) (blkOk_by (N := ["entries", "pairs", "key", "part"]) (sc := defScope s__in_order) (by decide +kernel)) (fun _ _ _ _ _ => (pg_tup rfl (pgs_cons (pg_name (i := 2) sc__in_order.nd rfl (Or.inl rfl)) (pgs_cons (pg_name (i := 3) sc__in_order.nd rfl (Or.inl rfl)) pgs_nil)))) (fun _ _ _ _ _ => pts_nil) (fun _ _ _ _ _ => (pe_tupE (pa_cons (pe_c c_key_octets hr (by decide) rfl (pa_cons (pv 2) pa_nil)) (pa_cons (pv 3) pa_nil)))))
    (pss_one (ps_ret (pe_sortlam (T := tbsOf K lamsL) (N := ["pair"]) (p := "pair") (k := 3) (pa_cons (pv 1) pa_nil) (by rfl) nb.sorted (by decide +kernel) (TB _ lams0) hc (tbs_mem lams0) (tbs_one lamN lams0) (hr.mono (by decide)) ⟨rfl, rfl, rfl, by decide +kernel, rfl, by decide +kernel, by decide +kernel⟩ rfl (fun _ _ _ _ _ => rfl) (fun _ _ _ _ _ _ hr => (pe_ix (show IxR _ (rIxT K) from ix_tup) (pv 0) pe_int (fun _ _ => rfl))))))), ?_⟩)
  obtain ⟨_, rfl, b, vs, es, rfl, hb, hv, hl, hk, tb, h⟩ := h
  -- 0:entries 1:pairs 2:key 3:part
  walk_at "rf"
  have hvl : vs.length = es.length := by rw [tpAll_len hv, datM_map, List.length_map]
  refine ⟨b, rfl, ⟨vs, SqT.of hb⟩, fun D nD => ?_⟩
  refine lc_tup (xs := vs) (fun i H' => ∃ ws, Same H H' ∧ H' D = some (.lst ws) ∧ Paired (InD H D H') ws (es.take i)) ⟨[], same_upd nD _, upd_same, .nil⟩ (fun i H' _ q => by obtain ⟨_, q1, _⟩ := q; exact SqT.of (q1 _ _ hb)) ?_ ?_
  · rintro i x H' hx ⟨ws, s1, hD, kw⟩
    obtain ⟨dd, hd, t2⟩ := tpAll_get hv hx
    rw [datM_map, List.getElem?_map] at hd
    cases he : es[i]? with
    | none => rw [he] at hd; cases hd
    | some en =>
    obtain ⟨kk, e⟩ := en
    rw [he] at hd
    cases hd
    have me := List.mem_of_getElem? he
    obtain ⟨c, zs, rfl, hc, re⟩ := tp_tup t2
    cases re with
    | cons q1 re =>
    cases re with
    | cons q2 re =>
    cases re
    obtain ⟨ck, rfl, hck⟩ := tp_kdB q1
    refine r_gtup (SqT.of (s1 _ _ hc)) rfl ?_
    walk_at "rf"
    refine ⟨rfl, ?_⟩
    walk_at "rf"
    refine ⟨_, rfl, ck, kk, rfl, s1 _ _ hck, (hk _ me).1, (hk _ me).2, fun q1 H4 n4 g4 s4 => ?_⟩
    have s14 := s1.trans s4
    walk_at "rf"
    refine ⟨by show 2 ≤ sizeLine; decide, fun q3 H6 n6 g6 s6 => ?_⟩
    have wl := Paired.length kw
    rw [List.length_take] at wl
    have s46 := s4.trans s6
    have il := (List.getElem?_eq_some_iff.mp he).1
    refine ⟨ws, s46 _ _ hD, Nat.lt_of_le_of_lt (show ws.length ≤ 100 by omega) (by decide), ws ++ [.ref q3], same_on (s1.trans s46) nD fun b o n => (upd_ne n).trans, upd_same, ?_⟩
    rw [List.take_add_one, he]
    have g6D := s46 _ _ hD
    refine paired_app (paired_imp (fun v en z => InD.put g6D (InD.same s46 z)) kw) (.cons (InD.put g6D ⟨q3, q1, _, rfl, g6, s6 _ _ g4, Tp.tk (Same.tk (s14.trans s6)) _ _ q2, fr_none (s1.free n4), fun z => ?_⟩) .nil)
    rw [z, hD] at n4
    cases n4
  · rintro H3 ⟨ws, s3, gD, kw⟩
    have hws := Paired.length kw
    rw [hvl, List.take_length] at hws kw
    walk_at "rf"
    obtain ⟨⟨k2, k3⟩, k4⟩ := keyK_ok (es.map fun e => txtO e.1)
    have k1 : ((es.map fun e => txtO e.1).map encL).length = ws.length := by
      rw [List.length_map, List.length_map]
      exact hws.symm
    have kS : SqL K H3 D ws ∨ SqT K H3 D ws := .inl (SqL.of gD)
    have T3 := tb.ext s3
    revert k1 k2 k3 k4
    generalize hks : (es.map fun e => txtO e.1).map encL = ks
    intro k4 k2 k3 k1
    refine ⟨_, rfl, T3, D, ws, ks, rfl, kS, k1, k2, k3, k4, fun H4 eN T4 => ⟨fun i y d hy hd H5 s5 => ?_, fun p H5 s5 np => ?_⟩⟩
    · obtain ⟨en, he, kx⟩ := paired_get kw hy
      rw [← hks, List.getElem?_map, List.getElem?_map, he] at hd
      cases hd
      obtain ⟨c, q, u, rfl, h1, h2, _⟩ := ((kx.at).extN eN).same s5
      walk_at "rf"
      refine r_ixT (SqT.of h1) (atI_nat (j := 0) rfl) ?_
      walk_at "rf"
      exact ⟨Same.refl _, dp_list h2⟩
    · have eA : LamX.ExtN H H5 := ext_same ((ext_of s3).trans eN) s5
      have ps := paired_srt (R := InD H D H3) kw
      rw [hks] at ps
      obtain ⟨H6, e6, s6, g6⟩ := new_o (o := HO.lst (srtK ws ks)) np
      rw [e6]
      clear e6
      exact h p _ _ ((fr_none np).back eA) g6 ⟨ext_same eA s6, (T4.ext s5).ext s6⟩ (paired_imp (R := InD H D H3) (S := InAt H H6) (fun v en z => InAt.same s6 (InAt.same s5 (InAt.extN eN (InD.at z)))) ps)
end

/-! ### sorted(x), x a list of data that is in order already -/
def rSortedS (K : Frg) : List V → Hp → VK → Prop := fun vs H Q => ∃ (a : Addr) (xs : List V) (ds : List PyData), vs = [V.ref a] ∧ SqL K H a xs ∧ DpAll K H xs ds ∧ PySem.W.AllAlike ds ∧ PySem.W.Sortable ds ∧ (∀ d ∈ ds, d.depth ≤ 40) ∧ ds.Pairwise (fun x y => PySem.W.dataLe false id x y = true) ∧
  ∀ p, H p = none → Q (.ref p) (upd H p (.lst xs))
theorem dpAll_each {K : Frg} {X : Cx} {pins : List (Addr × Obj)} {σ : St} {H : Hp} {s : Shared} (I : Inv X pins σ H s) (eK : X.K = K) : ∀ {xs : List V} {ds : List PyData} {us : List Value}, DpAll K H xs ds → Vals xs us →
    PySem.W.EachIs (fun u (b : V × PyData) => RelV b.1 u) us (xs.zip ds) ∧ PySem.W.EachIs (fun u (b : V × PyData) => ∃ as, Reads s.heap u b.2 as) us (xs.zip ds) ∧ (xs.zip ds).map (·.2) = ds ∧ (xs.zip ds).map (·.1) = xs
  | _, _, _, .nil, .nil => ⟨.nil, .nil, rfl, rfl⟩
  | _, _, _, .cons h t, .cons r rs => by
    obtain ⟨a, b, c, d⟩ := dpAll_each I eK t rs
    subst eK
    obtain ⟨as, q⟩ := Dp.reads I _ _ _ h r
    exact ⟨.cons r a, .cons ⟨as, q⟩ b, congrArg _ c, congrArg _ d⟩
theorem each_vals : ∀ {us : List Value} {bs : List (V × PyData)}, PySem.W.EachIs (fun u (b : V × PyData) => RelV b.1 u) us bs → Vals (bs.map (·.1)) us
  | _, _, .nil => .nil
  | _, _, .cons r t => .cons r (each_vals t)
theorem cr_sortedS {X : Cx} (hu : X.A.units + 64 < cLine) : CallR X (.builtin "sorted") (rSortedS X.K) := by
  intro pins s σ H vs us Q I r h
  obtain ⟨a, xs, ds, rfl, hs, hd, hal, hk, hdp, hso, q⟩ := h
  obtain ⟨its, rv, hl, hz⟩ := I.list hs
  obtain ⟨u, rfl, ru⟩ := vals1 r
  obtain rfl : u = Value.ref a := ru
  obtain ⟨e1, e2, e3, e4⟩ := dpAll_each I rfl hd rv
  have hlen : (xs.zip ds).length ≤ sizeLine := by
    have := congrArg List.length e4
    rw [List.length_map] at this
    omega
  refine PySem.W.sorted_data (enc := fun b : V × PyData => b.2) hl.isList e1 e2 (by rw [e3]; exact hal) (by rw [e3]; exact hk) hlen (fun b hb => ?_) fun out ho eo => ?_
  · have hb2 : b.2 ∈ ds := by
      rw [← e3]
      exact List.mem_map_of_mem hb
    have := hdp _ hb2
    omega
  · have srt : (xs.zip ds).mergeSort (PySem.W.dataLe false fun b : V × PyData => b.2) = xs.zip ds := by
      refine List.mergeSort_of_pairwise ?_
      rw [← e3] at hso
      exact List.pairwise_map.mp hso
    rw [srt] at eo
    have vo := each_vals eo
    rw [e4] at vo
    obtain ⟨n, hn⟩ := PyProof.Rows.sortedAll_at s.heap its out.toArray
    have kp : ∀ b o, s.heap.get? b = some o → (PyProof.Rows.sortedAll s.heap its out.toArray).get? b = some o := fun b o e => PyProof.Rows.sortedAll_old e
    refine ⟨.ref (s.heap.objs.size + 1), upd H (s.heap.objs.size + 1) (.lst xs), I.laid (t' := s.toks) kp (Nat.le_succ _) ⟨hz, out, n, vo, hn⟩, rfl, q _ (I.hok.fresh (Nat.le_succ _))⟩

/-! ### the order of points is the order of their octets -/
theorem lex_fst {x y : Int} (h : x < y) (xs ys : List Int) : HT.lexLt (x :: xs) (y :: ys) = true := by
  rw [HT.lexLt_cons, if_neg (Int.ne_of_lt h), decide_eq_true h]
theorem lex_two {x y : Int} {xs ys : List Int} (h : x < y ∨ (x = y ∧ HT.lexLt xs ys = true)) : HT.lexLt (x :: xs) (y :: ys) = true := by
  rcases h with h | ⟨rfl, h⟩
  · exact lex_fst h _ _
  · rw [HT.lexLt_cons, if_pos rfl]
    exact h
theorem enc1_lt {a b : Int} (ha : 0 ≤ a) (hb : b ≤ 1114111) (h : a < b) (X Y : List Int) : HT.lexLt (enc1 a ++ X) (enc1 b ++ Y) = true := by
  by_cases c1 : a < 128
  · rw [enc_low c1]
    by_cases d1 : b < 128
    · rw [enc_low d1]
      exact lex_fst h _ _
    · rcases enc_long (c := b) (by omega) with ⟨q, _, e⟩ | ⟨q, q2, _, e⟩ | ⟨q, _, e⟩ <;> rw [e] <;> exact lex_fst (by omega) _ _
  · rcases enc_long (c := a) (by omega) with ⟨p, _, e⟩ | ⟨p, p2, _, e⟩ | ⟨p, _, e⟩ <;> rcases enc_long (c := b) (by omega) with ⟨q, _, f⟩ | ⟨q, q2, _, f⟩ | ⟨q, _, f⟩ <;> rw [e, f] <;> (try (exfalso; omega)) <;> (try exact lex_fst (by omega) _ _)
    · refine lex_two ?_
      by_cases d : a / 64 = b / 64
      · exact .inr ⟨by omega, lex_fst (by omega) _ _⟩
      · exact .inl (by omega)
    · refine lex_two ?_
      by_cases d : a / 4096 = b / 4096
      · refine .inr ⟨by omega, lex_two ?_⟩
        by_cases d2 : a / 64 % 64 = b / 64 % 64
        · exact .inr ⟨by omega, lex_fst (by omega) _ _⟩
        · exact .inl (by omega)
      · exact .inl (by omega)
    · refine lex_two ?_
      by_cases d : a / 262144 = b / 262144
      · refine .inr ⟨by omega, lex_two ?_⟩
        by_cases d2 : a / 4096 % 64 = b / 4096 % 64
        · refine .inr ⟨by omega, lex_two ?_⟩
          by_cases d3 : a / 64 % 64 = b / 64 % 64
          · exact .inr ⟨by omega, lex_fst (by omega) _ _⟩
          · exact .inl (by omega)
        · exact .inl (by omega)
      · exact .inl (by omega)
theorem lex_app : ∀ (p a b : List Int), HT.lexLt (p ++ a) (p ++ b) = HT.lexLt a b
  | [], _, _ => rfl
  | x :: p, a, b => by
    show HT.lexLt (x :: (p ++ a)) (x :: (p ++ b)) = _
    rw [HT.lexLt_cons, if_pos rfl]
    exact lex_app p a b
theorem encs_lt : ∀ {a b : List Int}, (∀ c ∈ a, Point c) → (∀ c ∈ b, Point c) → HT.lexLt a b = true → HT.lexLt (encs a) (encs b) = true
  | [], [], _, _, h => h
  | [], y :: ys, _, _, _ => by
    show HT.lexLt [] (enc1 y ++ encs ys) = true
    have l := (len_enc1 y).1
    cases e : enc1 y with
    | nil => rw [e] at l; exact absurd l (by decide)
    | cons z zs => rfl
  | _ :: _, [], _, _, h => by cases h
  | x :: xs, y :: ys, ha, hb, h => by
    rw [HT.lexLt_cons] at h
    show HT.lexLt (enc1 x ++ encs xs) (enc1 y ++ encs ys) = true
    by_cases c : x = y
    · subst c
      rw [if_pos rfl] at h
      rw [lex_app]
      exact encs_lt (fun c hc => ha c (List.mem_cons_of_mem _ hc)) (fun c hc => hb c (List.mem_cons_of_mem _ hc)) h
    · rw [if_neg c] at h
      exact enc1_lt (ha x (List.mem_cons_self ..)).1 (hb y (List.mem_cons_self ..)).2.1 (of_decide_eq_true h) _ _
theorem lex_lt : ∀ a b : List Int, HT.lexLt a b = decide (a < b)
  | [], [] => rfl
  | [], _ :: _ => by rw [decide_eq_true (List.nil_lt_cons _ _)]; rfl
  | _ :: _, [] => by rw [decide_eq_false (List.not_lt_nil _)]; rfl
  | x :: xs, y :: ys => by
    rw [HT.lexLt_cons]
    by_cases c : x = y
    · rw [if_pos c, lex_lt xs ys]
      simp [c, List.cons_lt_cons_iff]
    · rw [if_neg c]
      simp [c, List.cons_lt_cons_iff]
/-- a key's octets and its value's -/
def keyD (a b : List Int) : PyData := .tuple [.list (a.map PyData.int), .list (b.map PyData.int)]
theorem alike_il (a b : List Int) : PySem.W.alike (.list (a.map PyData.int)) (.list (b.map PyData.int)) = true := PySem.W.alike_ints a b
theorem keyD_alike (a b c d : List Int) : PySem.W.alike (keyD a b) (keyD c d) = true := by
  unfold keyD
  simp [PySem.W.alike, PySem.W.alikeAll, PySem.W.alike_ints]
theorem keyD_le {a b : List Int} (c d : List Int) (h : HT.lexLt a b = true) : PySem.W.dataLe false id (keyD a c) (keyD b d) = true := by
  have hn : ¬ b = a := fun z => by
    rw [z, lexLt_irr] at h
    cases h
  have hl := lexLt_asym _ _ h
  rw [lex_lt] at hl
  show (!PySem.W.dataLt (keyD b d) (keyD a c)) = true
  unfold keyD
  rw [PySem.W.dataLt_pair (alike_il b a) (alike_il d c), eqv_ints, decide_eq_false hn, if_neg Bool.false_ne_true, PySem.W.dataLt_list]
  show (!PySem.W.rowLt (b.map .int) (a.map .int)) = true
  rw [PySem.W.dataLt_ints, hl]
  rfl
theorem keyD_depth (a b : List Int) : (keyD a b).depth ≤ 40 := by
  simp [keyD, PyData.depth, PyData.depthAll, depth_ints]

/-! ### sorted(x), x a list of data in any order -/
def rSortedG (K : Frg) : List V → Hp → VK → Prop := fun vs H Q => ∃ (a : Addr) (xs : List V) (ds : List PyData), vs = [V.ref a] ∧ SqL K H a xs ∧ DpAll K H xs ds ∧ PySem.W.AllAlike ds ∧ PySem.W.Sortable ds ∧ (∀ d ∈ ds, d.depth ≤ 40) ∧
  ∀ p, H p = none → Q (.ref p) (upd H p (.lst (srtK xs ds)))
theorem cr_sortedG {X : Cx} (hu : X.A.units + 64 < cLine) : CallR X (.builtin "sorted") (rSortedG X.K) := by
  intro pins s σ H vs us Q I r h
  obtain ⟨a, xs, ds, rfl, hs, hd, hal, hk, hdp, q⟩ := h
  obtain ⟨its, rv, hl, hz⟩ := I.list hs
  obtain ⟨u, rfl, ru⟩ := vals1 r
  obtain rfl : u = Value.ref a := ru
  obtain ⟨e1, e2, e3, e4⟩ := dpAll_each I rfl hd rv
  have hlen : (xs.zip ds).length ≤ sizeLine := by
    have := congrArg List.length e4
    rw [List.length_map] at this
    omega
  refine PySem.W.sorted_data (enc := fun b : V × PyData => b.2) hl.isList e1 e2 (by rw [e3]; exact hal) (by rw [e3]; exact hk) hlen (fun b hb => ?_) fun out ho eo => ?_
  · have hb2 : b.2 ∈ ds := by
      rw [← e3]
      exact List.mem_map_of_mem hb
    have := hdp _ hb2
    omega
  · have vo : Vals (srtK xs ds) out := each_vals eo
    have hz2 : (srtK xs ds).length ≤ sizeLine := by
      unfold srtK
      rw [List.length_map, List.length_mergeSort]
      exact hlen
    obtain ⟨n, hn⟩ := PyProof.Rows.sortedAll_at s.heap its out.toArray
    have kp : ∀ b o, s.heap.get? b = some o → (PyProof.Rows.sortedAll s.heap its out.toArray).get? b = some o := fun b o e => PyProof.Rows.sortedAll_old e
    refine ⟨.ref (s.heap.objs.size + 1), upd H (s.heap.objs.size + 1) (.lst (srtK xs ds)), I.laid (t' := s.toks) kp (Nat.le_succ _) ⟨hz2, out, n, vo, hn⟩, rfl, q _ (I.hok.fresh (Nat.le_succ _))⟩
/-! ### a key's octets tell the key -/
theorem wd_ge (i : Int) : 0 ≤ hdWd i := by
  unfold hdWd
  repeat (first | split | decide)
theorem wd_mono {a b : Int} (h : a ≤ b) : hdWd (shI a) ≤ hdWd (shI b) := by
  unfold shI
  by_cases a1 : a < 24
  · rw [if_pos a1, wd_low a1]
    exact wd_ge _
  rw [if_neg a1, if_neg (show ¬ b < 24 by omega)]
  by_cases a2 : a < 256
  · rw [if_pos a2]
    repeat (first | split | exact Int.le_refl _ | decide)
  rw [if_neg a2, if_neg (show ¬ b < 256 by omega)]
  by_cases a3 : a < 65536
  · rw [if_pos a3]
    repeat (first | split | exact Int.le_refl _ | decide)
  rw [if_neg a3, if_neg (show ¬ b < 65536 by omega)]
  by_cases a4 : a < 4294967296
  · rw [if_pos a4]
    repeat (first | split | exact Int.le_refl _ | decide)
  rw [if_neg a4, if_neg (show ¬ b < 4294967296 by omega)]
  exact Int.le_refl _
theorem shH_size (m n : Int) : (shH m n).length = 1 + (hdWd (shI n)).toNat := by
  unfold shH headI
  rw [List.length_cons, be_len]
  omega
theorem encs_inj {a b : List Int} (ha : ∀ c ∈ a, Point c) (hb : ∀ c ∈ b, Point c) (h : encs a = encs b) : a = b := by
  apply lexLt_tri
  · cases e : HT.lexLt a b with
    | false => rfl
    | true =>
      have q := encs_lt ha hb e
      rw [h, lexLt_irr] at q
      cases q
  · cases e : HT.lexLt b a with
    | false => rfl
    | true =>
      have q := encs_lt hb ha e
      rw [h, lexLt_irr] at q
      cases q
theorem txtO_inj {a b : List Int} (ha : ∀ c ∈ a, Point c) (hb : ∀ c ∈ b, Point c) (h : txtO a = txtO b) : a = b := by
  unfold txtO at h
  have hl := congrArg List.length h
  rw [List.length_append, List.length_append, shH_size, shH_size] at hl
  have el : (encs a).length = (encs b).length := by
    rcases Nat.lt_trichotomy (encs a).length (encs b).length with z | z | z
    · have := wd_mono (show (((encs a).length : Nat) : Int) ≤ ((encs b).length : Nat) by omega)
      omega
    · exact z
    · have := wd_mono (show (((encs b).length : Nat) : Int) ≤ ((encs a).length : Nat) by omega)
      omega
  rw [el] at h
  exact encs_inj ha hb (List.append_cancel_left h)
/-- the order of pairs is the order of their first parts -/
theorem pairs_le {x y : List Int × Vl} (hi : txtO x.1 = txtO y.1 → x = y) : rowLe (txtO x.1) (txtO y.1) = PySem.W.dataLe false id (keyD (txtO x.1) (octV x.2)) (keyD (txtO y.1) (octV y.2)) := by
  by_cases c : txtO x.1 = txtO y.1
  · rw [hi c]
    have e1 : rowLe (txtO y.1) (txtO y.1) = true := decide_eq_true (List.le_refl _)
    rw [e1]
    show true = (!PySem.W.dataLt (keyD (txtO y.1) (octV y.2)) (keyD (txtO y.1) (octV y.2)))
    unfold keyD
    rw [PySem.W.dataLt_pair (alike_il _ _) (alike_il _ _), eqv_ints, eqv_ints]
    simp
  · show decide (txtO x.1 ≤ txtO y.1) = (!PySem.W.dataLt (keyD (txtO y.1) (octV y.2)) (keyD (txtO x.1) (octV x.2)))
    unfold keyD
    have c2 : decide (txtO y.1 = txtO x.1) = false := decide_eq_false fun z => c z.symm
    rw [PySem.W.dataLt_pair (alike_il _ _) (alike_il _ _), eqv_ints, c2, if_neg Bool.false_ne_true, PySem.W.dataLt_list]
    show _ = (!PySem.W.rowLt ((txtO y.1).map .int) ((txtO x.1).map .int))
    rw [PySem.W.dataLt_ints]
    by_cases d : txtO y.1 < txtO x.1
    · rw [decide_eq_true d, decide_eq_false (List.not_le.mpr d)]
      rfl
    · rw [decide_eq_false d, decide_eq_true (List.not_lt.mp d)]
      rfl

/-! ### sorted pairs of a key's octets and its value's -/
theorem paired_srt2 {R : V → List Int × Vl → Prop} {ws : List V} {es : List (List Int × Vl)} (hi : ∀ x ∈ es, ∀ y ∈ es, txtO x.1 = txtO y.1 → x = y) (h : Paired R ws es) : Paired R (srtK ws (es.map fun e => keyD (txtO e.1) (octV e.2))) (srtE es) := by
  have e0 := paired_srt h
  have hl := Paired.length h
  have ez : ∀ (g : List Int × Vl → PyData), ws.zip (es.map g) = (ws.zip es).map fun z => ((z.1, g z.2) : KeyB) := fun g => by
    clear h e0 hi
    induction ws generalizing es with
    | nil => rfl
    | cons x xs ih =>
      cases es with
      | nil => rfl
      | cons e es =>
        simp only [List.map_cons, List.zip_cons_cons]
        rw [ih (by simpa using hl)]
  have e1 : srtK ws (es.map fun e => keyD (txtO e.1) (octV e.2)) = srtK ws ((es.map fun e => txtO e.1).map encL) := by
    unfold srtK
    rw [List.map_map, ez (fun e => keyD (txtO e.1) (octV e.2)), ez (encL ∘ fun e => txtO e.1)]
    have mem : ∀ z ∈ ws.zip es, z.2 ∈ es := fun z hz => List.of_mem_zip hz |>.2
    have m1 := List.map_mergeSort (r := fun x y : V × (List Int × Vl) => rowLe (txtO x.2.1) (txtO y.2.1)) (s := PySem.W.dataLe false fun b : KeyB => b.2) (f := fun z => ((z.1, encL (txtO z.2.1)) : KeyB)) (l := ws.zip es) fun a _ b _ => (congrFun (congrFun le_rowLe (txtO a.2.1)) (txtO b.2.1)).symm
    have m2 := List.map_mergeSort (r := fun x y : V × (List Int × Vl) => rowLe (txtO x.2.1) (txtO y.2.1)) (s := PySem.W.dataLe false fun b : KeyB => b.2) (f := fun z => ((z.1, keyD (txtO z.2.1) (octV z.2.2)) : KeyB)) (l := ws.zip es) fun a ha b hb => pairs_le (hi _ (mem a ha) _ (mem b hb))
    rw [← m2]
    show _ = List.map (fun x => x.1) (((ws.zip es).map fun z => ((z.1, encL (txtO z.2.1)) : KeyB)).mergeSort (PySem.W.dataLe false fun b : KeyB => b.2))
    rw [← m1, List.map_map, List.map_map]
    rfl
  rw [e1]
  exact e0
theorem ko_inj {es : List (List Int × Vl)} (ko : (es.map (·.1)).Pairwise (fun x y => HT.lexLt x y = true)) (kp : ∀ e ∈ es, Kp e.1) : ∀ x ∈ es, ∀ y ∈ es, txtO x.1 = txtO y.1 → x = y := fun x hx y hy e => by
  have ek := txtO_inj (kp x hx).2 (kp y hy).2 e
  rw [List.pairwise_map] at ko
  obtain ⟨i, hi, rfl⟩ := List.getElem_of_mem hx
  obtain ⟨j, hj, rfl⟩ := List.getElem_of_mem hy
  rw [List.pairwise_iff_getElem] at ko
  rcases Nat.lt_trichotomy i j with z | z | z
  · have q := ko i j hi hj z
    rw [ek, lexLt_irr] at q
    cases q
  · subst z
    rfl
  · have q := ko j i hj hi z
    rw [ek, lexLt_irr] at q
    cases q
/-- a tuple of two new lists, the octets of a key and of its value -/
def KyAt (D : Addr) (H : Hp) (v : V) (en : List Int × Vl) : Prop := ∃ c p q : Addr, v = .ref c ∧ H c = some (.tup [.ref p, .ref q]) ∧ H p = some (.lst ((txtO en.1).map V.int)) ∧ H q = some (.lst ((octV en.2).map V.int)) ∧ p ≠ D ∧ q ≠ D
theorem KyAt.same {D : Addr} {H H' : Hp} {v : V} {en : List Int × Vl} (s : Same H H') (h : KyAt D H v en) : KyAt D H' v en := by
  obtain ⟨c, p, q, e, h1, h2, h3, h4⟩ := h
  exact ⟨c, p, q, e, s _ _ h1, s _ _ h2, s _ _ h3, h4⟩
theorem KyAt.put {D : Addr} {H : Hp} {v : V} {en : List Int × Vl} {ws us : List V} (g : H D = some (.lst ws)) (h : KyAt D H v en) : KyAt D (upd H D (.lst us)) v en := by
  obtain ⟨c, p, q, e, h1, h2, h3, h4, h5⟩ := h
  have hc : c ≠ D := fun z => by rw [z, g] at h1; cases h1
  exact ⟨c, p, q, e, (upd_ne hc).trans h1, (upd_ne h4).trans h2, (upd_ne h5).trans h3, h4, h5⟩
theorem ky_dp {K : Frg} {D : Addr} {H : Hp} : ∀ {ws : List V} {es : List (List Int × Vl)}, Paired (KyAt D H) ws es → DpAll K H ws (es.map fun e => keyD (txtO e.1) (octV e.2))
  | _, _, .nil => .nil
  | _, _, .cons ⟨c, p, q, e, h1, h2, h3, _⟩ t => by
    subst e
    exact .cons (.tup (SqT.of h1) (.cons (.lst (SqL.of h2) (dpa_ints _)) (.cons (.lst (SqL.of h3) (dpa_ints _)) .nil))) (ky_dp t)
/-- all but p stays, and the tables -/
def But1 (p : Addr) (H H' : Hp) : Prop := ∀ c o, c ≠ p → H c = some o → (∀ ps, o ≠ .tbl ps) → H' c = some o
theorem But1.put {p : Addr} {A B C : Hp} (h : But1 p A B) (k : ∀ c o, c ≠ p → B c = some o → C c = some o) : But1 p A C := fun c o n e t => k c o n (h c o n e t)
theorem But1.ext {p : Addr} {A B C : Hp} (h : But1 p A B) (k : LamX.ExtN B C) : But1 p A C := fun c o n e t => k c o (h c o n e t) t
theorem InAt.but {H0 H H' : Hp} {p : Addr} {v : V} {en : List Int × Vl} {ws : List V} (gp : H p = some (.lst ws)) (gp0 : H0 p = some (.lst ws)) (k : But1 p H H') (h : InAt H0 H v en) : InAt H0 H' v en := by
  obtain ⟨c, q, u, e, h1, h2, h3, h4⟩ := h
  have hq : q ≠ p := fun z => h4 p _ gp0 (fun ps t => by cases t) z.symm
  exact ⟨c, q, u, e, k _ _ (fun z => by rw [z, gp] at h1; cases h1) h1 (fun ps t => by cases t), k _ _ hq h2 (fun ps t => by cases t), Tp.tk (fun a xs t => k _ _ (fun z => by rw [z, gp] at t; cases t) t (fun ps t => by cases t)) _ _ h3, h4⟩
theorem octE_le {es : List (List Int × Vl)} {e : List Int × Vl} (h : e ∈ es) : (octV e.2).length ≤ (octM es).length := by
  obtain ⟨i, hi⟩ := List.getElem?_of_mem h
  have := octW_le hi
  omega
section
variable {P : Program} {w : World} {K : PySem.W.Frag} {mg : Str → Option Value} {base : Heap} {f : Addr} {fd : FuncData}
theorem ok__octets_of (n : Nat) (F : FunD K "_octets_of" "_octets_of" (defArgs s__octets_of) (defBody s__octets_of) (defScope s__octets_of) [] [] (glAd "_octets_of" K) fd) (m : mg "_octets_of" = some (.ref (glAd "_octets_of" K))) (nb : Nm w K mg) (c_shortest_head : Cal P w K mg base 2 "shortest_head" (sp_shortest_head K) []) (c_leaf_octets : Cal P w K mg base 5 "leaf_octets" (sp_leaf_octets K) []) (c__in_order : Cal P w K mg base 7 "_in_order" (sp__in_order K) []) (c__octets_of : Cal P w K mg base (8 + n) "_octets_of" (sp__octets_of K n) []) : Cal P w K mg base (8 + n + 1) "_octets_of" (sp__octets_of K (n + 1)) [] := by
  refine calD F m sc__octets_of (fun _ _ _ _ _ _ us hl => match us, hl with | [_], _ => rfl) len1 (fun cdv A outer s H vs Q E hr h => ⟨_, (pss_cons (ps_if (pt_cmpR op_eq (pe_ix ix_tup (pv 0) pe_int (fun _ _ => rfl)) pe_str (nomark _))
    (pss_cons (ps_set (i := 1) sc__octets_of.nd rfl (Or.inl rfl) (pe_c c_shortest_head hr (by omega) rfl (pa_cons (pe_gc rfl nb.g_LIST) (pa_cons (pe_callB call_len_seq (by rfl) nb.len PySem.boot_len (pa_cons (pe_ix ix_tup (pv 0) pe_int (fun _ _ => rfl)) pa_nil)) pa_nil))))
    (pss_cons (ps_for PassesOwn.never rfl (pi_tup (pe_ix ix_tup (pv 0) pe_int (fun _ _ => rfl))) (pg_name (i := 2) sc__octets_of.nd rfl (Or.inl rfl))
    (pss_one (ps_expr (pe_bm PySem.F.plainAttrs_list PySem.F.slot_list_extend PySem.F.type_list_extend mt_extend (pv 1) (pa_cons (pe_c c__octets_of hr (by omega) rfl (pa_cons (pv 2) pa_nil)) pa_nil)))))
    (pss_one (ps_ret (pv 1)))))
    pss_nil)
    (pss_cons (ps_if (pt_cmpR op_eq (pe_ix ix_tup (pv 0) pe_int (fun _ _ => rfl)) pe_str (nomark _))
    (pss_cons (ps_set (i := 1) sc__octets_of.nd rfl (Or.inl rfl) (pe_c c_shortest_head hr (by omega) rfl (pa_cons (pe_gc rfl nb.g_MAP) (pa_cons (pe_callB call_len_seq (by rfl) nb.len PySem.boot_len (pa_cons (pe_ix ix_tup (pv 0) pe_int (fun _ _ => rfl)) pa_nil)) pa_nil))))
    (pss_cons (ps_for PassesOwn.never rfl (pi_list (pe_c c__in_order hr (by omega) rfl (pa_cons (pe_ix ix_tup (pv 0) pe_int (fun _ _ => rfl)) pa_nil))) (pg_tup rfl (pgs_cons (pg_name (i := 3) sc__octets_of.nd rfl (Or.inl rfl)) (pgs_cons (pg_name (i := 4) sc__octets_of.nd rfl (Or.inl rfl)) pgs_nil)))
    (pss_cons (ps_expr (pe_bm PySem.F.plainAttrs_list PySem.F.slot_list_extend PySem.F.type_list_extend mt_extend (pv 1) (pa_cons (pv 3) pa_nil)))
    (pss_one (ps_expr (pe_bm PySem.F.plainAttrs_list PySem.F.slot_list_extend PySem.F.type_list_extend mt_extend (pv 1) (pa_cons (pe_c c__octets_of hr (by omega) rfl (pa_cons (pv 4) pa_nil)) pa_nil))))))
    (pss_one (ps_ret (pv 1)))))
    pss_nil)
    (pss_one (ps_ret (pe_c c_leaf_octets hr (by omega) rfl (pa_cons (pv 0) pa_nil)))))), ?_⟩)
  obtain ⟨_, rfl, d, m, t, gf, fu, hm, hz, tb, h⟩ := h
  -- 0:value 1:octets 2:item 3:key 4:part
  cases d with
  | lf k r =>
    have lb := Full.leaf gf fu
    obtain ⟨a, us, rfl, ha, hu⟩ := tp_tup t
    cases hu with
    | cons r1 r2 =>
    cases r1
    have hk : k ≠ "list" ∧ k ≠ "map" := by
      cases lb <;> exact ⟨by decide +kernel, by decide +kernel⟩
    walk_at "rf"
    refine r_ixT (SqT.of ha) (atI_nat (j := 0) rfl) ?_
    walk_at "rf"
    refine r_iteN hk.1 ?_
    walk_at "rf"
    refine r_ixT (SqT.of ha) (atI_nat (j := 0) rfl) ?_
    walk_at "rf"
    refine r_iteN hk.2 ?_
    walk_at "rf"
    exact ⟨_, rfl, a, k, _, r, rfl, ha, r2, lb, h.out tb⟩
  | mp es =>
    obtain ⟨m, rfl⟩ : ∃ q, m = q + 1 := by
      cases m with
      | zero => exact gf.elim
      | succ m => exact ⟨m, rfl⟩
    obtain ⟨hl, ko, kp, gf⟩ := gf
    obtain ⟨a, us, rfl, ha, hu⟩ := tp_tup t
    cases hu with
    | cons r1 r2 =>
    cases r1
    cases r2 with
    | cons r2 r3 =>
    cases r3
    obtain ⟨b, vs, rfl, hb, hv⟩ := tp_tup r2
    walk_at "rf"
    refine r_ixT (SqT.of ha) (atI_nat (j := 0) rfl) ?_
    walk_at "rf"
    refine r_iteN (show ¬ ("map" : Str) = "list" by decide +kernel) ?_
    walk_at "rf"
    refine r_ixT (SqT.of ha) (atI_nat (j := 0) rfl) ?_
    walk_at "rf"
    refine r_itep (show ("map" : Str) = "map" from rfl) ?_
    walk_at "rf"
    refine r_ixT (SqT.of ha) rfl ?_
    walk_at "rf"
    have hvl : vs.length = es.length := by rw [tpAll_len hv, datM_map, List.length_map]
    refine ⟨b, vs, rfl, .inr (SqT.of hb), ?_⟩
    walk_at "rf"
    refine ⟨_, _, rfl, 5, (vs.length : Nat), rfl, rfl, by omega, by omega, fun p H2 np g2 s2 => ?_⟩
    rw [hvl] at g2
    rw [octV_mp, List.length_append] at hz
    have t2 : TbL K H2 := tb.ext s2
    walk_at "rf"
    refine r_ixT (SqT.of (s2 _ _ ha)) rfl ?_
    walk_at "rf"
    refine ⟨_, rfl, b, vs, es, rfl, s2 _ _ hb, TpAll.tk (Same.tk s2) _ _ hv, hl, kp, t2, fun pl ws H3 f3 g3 x3 kw => ?_⟩
    have x03 : Xt K H H3 := ⟨(ext_of s2).trans x3.1, x3.2⟩
    have hpl : pl ≠ p := fun z => f3 p _ g2 (fun ps t => by cases t) z.symm
    have hws := Paired.length kw
    have hsl : (srtE es).length = es.length := (srtE_perm es).length_eq
    walk_at "rf"
    have e0 : H3 p = some (.lst ((shH 5 (es.length : Nat) ++ octM ((srtE es).take 0)).map V.int)) := by
      rw [x3.lst g2]
      simp [octM]
    refine ⟨pl, rfl, ⟨ws, SqL.of g3⟩, r_eachL (xs := ws) (fun i σ H' => H' p = some (.lst ((shH 5 (es.length : Nat) ++ octM ((srtE es).take i)).map V.int)) ∧ Xt K H H' ∧ But1 p H3 H' ∧ ∃ y1 y2 y3, σ = [some (.ref a), some (.ref p), y1, y2, y3]) ⟨e0, x03, fun c o n e t => e, none, none, none, rfl⟩ (fun i σ H' q => SqL.of (q.2.2.1 _ _ hpl g3 (fun ps t => by cases t))) ?_ ?_⟩
    · rintro i x σ H' hx ⟨gp, x4, b4, y1, y2, y3, rfl⟩
      obtain ⟨en, he, kx⟩ := paired_get kw hx
      obtain ⟨kk, e⟩ := en
      have me := (srtE_perm es).mem_iff.mp (List.mem_of_getElem? he)
      have le := octW_le he
      dsimp only at le
      obtain ⟨c, q, u, rfl, h1, h2, h3, h4⟩ := kx.but (x3.lst g2) g2 b4
      dsimp only at h2 h3
      refine r_gtup (SqT.of h1) rfl ?_
      walk_at "rf"
      refine ⟨tyL gp, ?_⟩
      walk_at "rf"
      refine r_extC gp h2 (by rw [List.length_append]; omega) fun H5 g5 k5 => ?_
      have x5 := x4.put (fr_none np) gp k5
      have b5 := b4.put k5
      have tk5 : Tk H' H5 := fun a xs t => k5 _ _ (fun z => by rw [z, gp] at t; cases t) t
      walk_at "rf"
      refine ⟨tyL g5, ?_⟩
      walk_at "rf"
      refine ⟨_, rfl, e, m, Tp.tk tk5 _ _ h3, gfM_mem gf _ me, fu.part me, by omega, by omega, x5.2, fun q6 H6 f6 g6 x6 => ?_⟩
      have x06 := x5.trans x6
      have b6 := b5.ext x6.1
      have gp6 := x6.lst g5
      walk_at "rf"
      refine r_extC gp6 g6 (by rw [List.length_append, List.length_append]; omega) fun H7 g7 k7 => ?_
      refine ⟨?_, x06.put (fr_none np) gp6 k7, b6.put k7, _, _, _, rfl⟩
      rw [octM_take he, ← List.append_assoc, ← List.append_assoc]
      exact g7
    · rintro σ H' ⟨gp, x4, b4, y1, y2, y3, rfl⟩
      rw [hws, List.take_length] at gp
      walk_at "rf"
      exact h p H' (fr_none np) (by rw [octV_mp]; exact gp) x4
  | ls xs =>
    obtain ⟨m, rfl⟩ : ∃ q, m = q + 1 := by
      cases m with
      | zero => exact gf.elim
      | succ m => exact ⟨m, rfl⟩
    obtain ⟨hl, gf⟩ := gf
    obtain ⟨a, us, rfl, ha, hu⟩ := tp_tup t
    cases hu with
    | cons r1 r2 =>
    cases r1
    cases r2 with
    | cons r2 r3 =>
    cases r3
    obtain ⟨b, vs, rfl, hb, hv⟩ := tp_tup r2
    walk_at "rf"
    refine r_ixT (SqT.of ha) (atI_nat (j := 0) rfl) ?_
    walk_at "rf"
    refine r_itep (show ("list" : Str) = "list" from rfl) ?_
    walk_at "rf"
    refine r_ixT (SqT.of ha) rfl ?_
    walk_at "rf"
    have hvl : vs.length = xs.length := by rw [tpAll_len hv, datL_map, List.length_map]
    refine ⟨b, vs, rfl, .inr (SqT.of hb), ?_⟩
    walk_at "rf"
    refine ⟨_, _, rfl, 4, (vs.length : Nat), rfl, rfl, by omega, by omega, fun p H2 np g2 s2 => ?_⟩
    rw [hvl] at g2
    have hz : (shH 4 (xs.length : Nat) ++ octL xs).length ≤ 16000000 := hz
    rw [List.length_append] at hz
    have t2 : TbL K H2 := tb.ext s2
    walk_at "rf"
    refine r_ixT (SqT.of (s2 _ _ ha)) rfl ?_
    walk_at "rf"
    have e0 : H2 p = some (.lst ((shH 4 (xs.length : Nat) ++ octL (xs.take 0)).map V.int)) := by
      rw [g2]
      simp [octL]
    refine ⟨b, rfl, ⟨vs, SqT.of (s2 _ _ hb)⟩, r_eachT (xs := vs) (fun i σ H' => H' p = some (.lst ((shH 4 (xs.length : Nat) ++ octL (xs.take i)).map V.int)) ∧ Xt K H H' ∧ ∃ y1 y2 y3, σ = [some (.ref a), some (.ref p), y1, y2, y3]) ⟨e0, Xt.of tb s2, none, none, none, rfl⟩ (fun i σ H' q => SqT.of (q.2.1.tup hb)) ?_ ?_⟩
    · rintro i x σ H' hx ⟨gp, x4, y1, y2, y3, rfl⟩
      obtain ⟨dd, hd, t3⟩ := tpAll_get hv hx
      rw [datL_map, List.getElem?_map] at hd
      cases he : xs[i]? with
      | none => rw [he] at hd; cases hd
      | some e =>
      rw [he] at hd
      cases hd
      have me := List.mem_of_getElem? he
      have le := octV_le he
      walk_at "rf"
      refine ⟨tyL gp, ?_⟩
      walk_at "rf"
      refine ⟨_, rfl, e, m, Tp.tk x4.tk _ _ t3, gfL_mem gf e me, fu.item me, by omega, by omega, x4.2, fun q6 H6 f6 g6 x6 => ?_⟩
      have x06 := x4.trans x6
      have gp6 := x6.lst gp
      walk_at "rf"
      refine r_extC gp6 g6 (by rw [List.length_append]; omega) fun H7 g7 k7 => ?_
      refine ⟨?_, x06.put (fr_none np) gp6 k7, _, _, _, rfl⟩
      rw [octL_take he, ← List.append_assoc]
      exact g7
    · rintro σ H' ⟨gp, x4, y1, y2, y3, rfl⟩
      rw [hvl, List.take_length] at gp
      walk_at "rf"
      exact h p H' (fr_none np) gp x4
theorem rec__octets_of (F : FunD K "_octets_of" "_octets_of" (defArgs s__octets_of) (defBody s__octets_of) (defScope s__octets_of) [] [] (glAd "_octets_of" K) fd) (m : mg "_octets_of" = some (.ref (glAd "_octets_of" K))) (nb : Nm w K mg) (c_shortest_head : Cal P w K mg base 2 "shortest_head" (sp_shortest_head K) []) (c_leaf_octets : Cal P w K mg base 5 "leaf_octets" (sp_leaf_octets K) []) (c__in_order : Cal P w K mg base 7 "_in_order" (sp__in_order K) []) : ∀ n, Cal P w K mg base (8 + n) "_octets_of" (sp__octets_of K n) []
  | 0 => calD (k := 7) F m sc__octets_of (fun _ _ _ _ _ _ us hl => match us, hl with | [_], _ => rfl) (fun _ _ _ _ h => (no__octets_of h).elim) (fun _ _ _ _ _ _ _ _ _ h => (no__octets_of h).elim)
  | n + 1 => ok__octets_of n F m nb c_shortest_head c_leaf_octets c__in_order (rec__octets_of F m nb c_shortest_head c_leaf_octets c__in_order n)
theorem ok__law_written (n : Nat) (F : FunD K "_law_written" "_law_written" (defArgs s__law_written) (defBody s__law_written) (defScope s__law_written) [] [] (glAd "_law_written" K) fd) (m : mg "_law_written" = some (.ref (glAd "_law_written" K))) (nb : Nm w K mg) (c__law_head : Cal P w K mg base 2 "_law_head" (sp__law_head K) []) (c__law_text : Cal P w K mg base 3 "_law_text" (sp__law_text K) []) (c__law_leaf_written : Cal P w K mg base 5 "_law_leaf_written" (sp__law_leaf_written K) []) (c__law_written : Cal P w K mg base (6 + n) "_law_written" (sp__law_written K n) []) : Cal P w K mg base (6 + n + 1) "_law_written" (sp__law_written K (n + 1)) [] := by
  refine calD F m sc__law_written (fun _ _ _ _ _ _ us hl => match us, hl with | [_], _ => rfl) len1 (fun cdv A outer s H vs Q E hr h => ⟨_, (pss_cons (ps_if (pt_cmpR op_eq (pe_ix ix_tup (pv 0) pe_int (fun _ _ => rfl)) pe_str (nomark _))
    (pss_cons (ps_set (i := 1) sc__law_written.nd rfl (Or.inl rfl) (pe_c c__law_head hr (by omega) rfl (pa_cons pe_int (pa_cons (pe_callB call_len_seq (by rfl) nb.len PySem.boot_len (pa_cons (pe_ix ix_tup (pv 0) pe_int (fun _ _ => rfl)) pa_nil)) pa_nil))))
    (pss_cons (ps_for PassesOwn.never rfl (pi_tup (pe_ix ix_tup (pv 0) pe_int (fun _ _ => rfl))) (pg_name (i := 2) sc__law_written.nd rfl (Or.inl rfl))
    (pss_one (ps_set (i := 1) sc__law_written.nd rfl (Or.inl rfl) (pe_op op_cat (pv 1) (pe_c c__law_written hr (by omega) rfl (pa_cons (pv 2) pa_nil))))))
    (pss_one (ps_ret (pv 1)))))
    pss_nil)
    (pss_cons (ps_if (pt_cmpR op_eq (pe_ix ix_tup (pv 0) pe_int (fun _ _ => rfl)) pe_str (nomark _))
    (pss_cons (ps_set (i := 1) sc__law_written.nd rfl (Or.inl rfl) (pe_c c__law_head hr (by omega) rfl (pa_cons pe_int (pa_cons (pe_callB call_len_seq (by rfl) nb.len PySem.boot_len (pa_cons (pe_ix ix_tup (pv 0) pe_int (fun _ _ => rfl)) pa_nil)) pa_nil))))
    (pss_cons (ps_for PassesOwn.never rfl (pi_list (pe_callB (cr_sortedG hr.units) (by rfl) nb.sorted (by decide +kernel) (pa_cons (pe_lc (own := [("entry", 4)]) (g := gName 4) (tt := tYes) rfl sc__law_written.nd (pi_tup (pe_ix ix_tup (pv 0) pe_int (fun _ _ => rfl))) (blkOk_by (N := ["value", "found", "item", "row", "entry"]) (sc := defScope s__law_written) (by decide +kernel)) (fun _ _ _ _ _ => pg_name (i := 4) sc__law_written.nd rfl (Or.inl rfl)) (fun _ _ _ _ _ => pts_nil) (fun _ _ _ _ _ => (pe_tupE (pa_cons (pe_c c__law_text hr (by omega) rfl (pa_cons (pe_ix (show IxR _ (rIxT K) from ix_tup) (pv 4) pe_int (fun _ _ => rfl)) pa_nil)) (pa_cons (pe_c c__law_written hr (by omega) rfl (pa_cons (pe_ix (show IxR _ (rIxT K) from ix_tup) (pv 4) pe_int (fun _ _ => rfl)) pa_nil)) pa_nil))))) pa_nil))) (pg_name (i := 3) sc__law_written.nd rfl (Or.inl rfl))
    (pss_one (ps_set (i := 1) sc__law_written.nd rfl (Or.inl rfl) (pe_op op_cat (pe_op op_cat (pv 1) (pe_ix ix_tup (pv 3) pe_int (fun _ _ => rfl))) (pe_ix ix_tup (pv 3) pe_int (fun _ _ => rfl))))))
    (pss_one (ps_ret (pv 1)))))
    pss_nil)
    (pss_one (ps_ret (pe_c c__law_leaf_written hr (by omega) rfl (pa_cons (pv 0) pa_nil)))))), ?_⟩)
  obtain ⟨_, rfl, d, m, t, gf, fu, hm, hz, h⟩ := h
  -- 0:value 1:found 2:item 3:row 4:entry
  cases d with
  | lf k r =>
    have lb := Full.leaf gf fu
    obtain ⟨a, us, rfl, ha, hu⟩ := tp_tup t
    cases hu with
    | cons r1 r2 =>
    cases r1
    have hk : k ≠ "list" ∧ k ≠ "map" := by
      cases lb <;> exact ⟨by decide +kernel, by decide +kernel⟩
    walk_at "rf"
    refine r_ixT (SqT.of ha) (atI_nat (j := 0) rfl) ?_
    walk_at "rf"
    refine r_iteN hk.1 ?_
    walk_at "rf"
    refine r_ixT (SqT.of ha) (atI_nat (j := 0) rfl) ?_
    walk_at "rf"
    refine r_iteN hk.2 ?_
    walk_at "rf"
    exact ⟨_, rfl, a, k, _, r, rfl, ha, r2, lb, h⟩
  | mp es =>
    obtain ⟨m, rfl⟩ : ∃ q, m = q + 1 := by
      cases m with
      | zero => exact gf.elim
      | succ m => exact ⟨m, rfl⟩
    obtain ⟨hl, ko, kp, gf⟩ := gf
    obtain ⟨a, us, rfl, ha, hu⟩ := tp_tup t
    cases hu with
    | cons r1 r2 =>
    cases r1
    cases r2 with
    | cons r2 r3 =>
    cases r3
    obtain ⟨b, vs, rfl, hb, hv⟩ := tp_tup r2
    walk_at "rf"
    refine r_ixT (SqT.of ha) (atI_nat (j := 0) rfl) ?_
    walk_at "rf"
    refine r_iteN (show ¬ ("map" : Str) = "list" by decide +kernel) ?_
    walk_at "rf"
    refine r_ixT (SqT.of ha) (atI_nat (j := 0) rfl) ?_
    walk_at "rf"
    refine r_itep (show ("map" : Str) = "map" from rfl) ?_
    walk_at "rf"
    refine r_ixT (SqT.of ha) rfl ?_
    walk_at "rf"
    have hvl : vs.length = es.length := by rw [tpAll_len hv, datM_map, List.length_map]
    refine ⟨b, vs, rfl, .inr (SqT.of hb), ?_⟩
    walk_at "rf"
    refine ⟨_, _, rfl, 5, (vs.length : Nat), rfl, rfl, by omega, by omega, fun p H2 np g2 s2 => ?_⟩
    rw [hvl] at g2
    rw [octV_mp, List.length_append] at hz
    have hsl : (srtE es).length = es.length := (srtE_perm es).length_eq
    walk_at "rf"
    refine r_ixT (SqT.of (s2 _ _ ha)) rfl ?_
    walk_at "rf"
    refine ⟨b, rfl, ⟨vs, SqT.of (s2 _ _ hb)⟩, fun D nD => ?_⟩
    refine lc_tup (xs := vs) (fun i H' => ∃ ws, Same H2 H' ∧ H' D = some (.lst ws) ∧ Paired (KyAt D H') ws (es.take i)) ⟨[], same_upd nD _, upd_same, .nil⟩ (fun i H' _ q => by obtain ⟨_, q1, _⟩ := q; exact SqT.of (q1 _ _ (s2 _ _ hb))) ?_ ?_
    · rintro i x H' hx ⟨ws, s1, hD, kw⟩
      obtain ⟨dd, hd, t2⟩ := tpAll_get hv hx
      rw [datM_map, List.getElem?_map] at hd
      cases he : es[i]? with
      | none => rw [he] at hd; cases hd
      | some en =>
      obtain ⟨kk, e⟩ := en
      rw [he] at hd
      cases hd
      have me := List.mem_of_getElem? he
      have ms := (srtE_perm es).mem_iff.mpr me
      have le : (octV e).length ≤ (octM (srtE es)).length := octE_le ms
      obtain ⟨c, zs, rfl, hc, re⟩ := tp_tup t2
      cases re with
      | cons q1 re =>
      cases re with
      | cons q2 re =>
      cases re
      obtain ⟨ck, rfl, hk⟩ := tp_kdB q1
      walk_at "rf"
      refine ⟨rfl, ?_⟩
      walk_at "rf"
      refine r_ixT (SqT.of ((s2.trans s1) _ _ hc)) (atI_nat (j := 0) rfl) ?_
      walk_at "rf"
      refine ⟨_, rfl, ck, kk, rfl, (s2.trans s1) _ _ hk, (kp _ me).1, (kp _ me).2, fun q1 H4 n4 g4 s4 => ?_⟩
      have s14 := s1.trans s4
      walk_at "rf"
      refine r_ixT (SqT.of ((s2.trans s14) _ _ hc)) (atI_nat (j := 1) rfl) ?_
      walk_at "rf"
      refine ⟨_, rfl, e, m, Tp.tk (Same.tk (s2.trans s14)) _ _ q2, gfM_mem gf _ me, fu.part me, by omega, by omega, fun q2 H5 n5 g5 s5 => ?_⟩
      walk_at "rf"
      refine ⟨by show 2 ≤ sizeLine; decide, fun q3 H6 n6 g6 s6 => ?_⟩
      have wl := Paired.length kw
      rw [List.length_take] at wl
      have s46 := s4.trans (s5.trans s6)
      refine ⟨ws, s46 _ _ hD, Nat.lt_of_le_of_lt (show ws.length ≤ 100 by omega) (by decide), ws ++ [.ref q3], same_on (s1.trans s46) nD fun b o n => (upd_ne n).trans, upd_same, ?_⟩
      rw [List.take_add_one, he]
      have g6D := s46 _ _ hD
      refine paired_app (paired_imp (fun v en z => KyAt.put g6D (KyAt.same s46 z)) kw) (.cons (KyAt.put g6D ⟨q3, q1, q2, rfl, g6, s6 _ _ (s5 _ _ g4), s6 _ _ g5, fun z => ?_, fun z => ?_⟩) .nil)
      · rw [z, hD] at n4
        cases n4
      · rw [z, s4 _ _ hD] at n5
        cases n5
    · rintro H3 ⟨ws, s3, gD, kw⟩
      have hws := Paired.length kw
      rw [hvl, List.take_length] at hws kw
      have s03 := s2.trans s3
      walk_at "rf"
      have kD := ky_dp (K := K) kw
      have kS := paired_srt2 (ko_inj ko kp) kw
      have k1 : ∀ d ∈ (es.map fun e => keyD (txtO e.1) (octV e.2)), d.depth ≤ 40 := fun d hd => by
        obtain ⟨e, _, rfl⟩ := List.mem_map.mp hd
        exact keyD_depth _ _
      have k2 : PySem.W.AllAlike (es.map fun e => keyD (txtO e.1) (octV e.2)) := PySem.W.AllAlike.of fun _ _ => keyD_alike _ _ _ _
      have k3 : PySem.W.Sortable (es.map fun e => keyD (txtO e.1) (octV e.2)) := PySem.W.Sortable.tuples fun e => ⟨_, _, rfl⟩
      revert kD kS k1 k2 k3
      generalize (es.map fun e => keyD (txtO e.1) (octV e.2)) = ds
      intro kD kS k1 k2 k3
      have sL : SqL K H3 D ws := SqL.of gD
      refine ⟨D, ws, ds, rfl, sL, kD, k2, k3, k1, fun pS nS => ?_⟩
      have kl := Paired.length kS
      revert kS kl
      generalize srtK ws ds = zs
      intro kS kl
      obtain ⟨H4, e4, s4, g4⟩ := new_o (o := HO.lst zs) nS
      rw [e4]
      clear e4
      have s04 := s03.trans s4
      have hD : D ≠ pS := fun z => by rw [z, nS] at gD; cases gD
      have e0 : H4 p = some (.lst ((shH 5 (es.length : Nat) ++ octM ((srtE es).take 0)).map V.int)) := by
        rw [s4 _ _ (s3 _ _ g2)]
        simp [octM]
      refine ⟨pS, rfl, ⟨zs, SqL.of g4⟩, r_eachL (xs := zs) (fun i σ H' => Same H4 H' ∧ ∃ p y y3 y4, H' p = some (.lst ((shH 5 (es.length : Nat) ++ octM ((srtE es).take i)).map V.int)) ∧ H p = none ∧ σ = [some (.ref a), some (.ref p), y, y3, y4]) ⟨Same.refl H4, p, _, _, _, e0, np, rfl⟩ (fun i σ H' q => SqL.of (q.1 _ _ g4)) ?_ ?_⟩
      · rintro i x σ H' hx ⟨s5, p, y, y3, y4, gp, np, rfl⟩
        obtain ⟨en, he, kx⟩ := paired_get kS hx
        obtain ⟨kk, e⟩ := en
        obtain ⟨c, q1, q2, rfl, h1, h2, h3, _⟩ := kx.same (s4.trans s5)
        have h2 : H' q1 = some (.lst ((txtO kk).map V.int)) := h2
        have h3 : H' q2 = some (.lst ((octV e).map V.int)) := h3
        have le := octW_le he
        dsimp only at le
        walk_at "rf"
        refine r_ixT (SqT.of h1) (atI_nat (j := 0) rfl) ?_
        walk_at "rf"
        refine r_catB gp h2 (by rw [List.length_append]; omega) fun q7 H7 n7 g7 s7 => ?_
        walk_at "rf"
        refine r_ixT (SqT.of (s7 _ _ h1)) (atI_nat (j := 1) rfl) ?_
        walk_at "rf"
        refine r_catB g7 (s7 _ _ h3) (by rw [List.length_append, List.length_append]; omega) fun q8 H8 n8 g8 s8 => ?_
        walk_at "rf"
        have s0 := (s04.trans s5).trans s7
        refine ⟨s5.trans (s7.trans s8), q8, _, _, _, ?_, s0.free n8, rfl⟩
        rw [octM_take he, ← List.append_assoc, ← List.append_assoc]
        exact g8
      · rintro σ H' ⟨s5, p, y, y3, y4, gp, np, rfl⟩
        rw [kl, List.take_length] at gp
        have s0 := s04.trans s5
        walk_at "rf"
        exact h p H' np (by rw [octV_mp]; exact gp) s0
  | ls xs =>
    obtain ⟨m, rfl⟩ : ∃ q, m = q + 1 := by
      cases m with
      | zero => exact gf.elim
      | succ m => exact ⟨m, rfl⟩
    obtain ⟨hl, gf⟩ := gf
    obtain ⟨a, us, rfl, ha, hu⟩ := tp_tup t
    cases hu with
    | cons r1 r2 =>
    cases r1
    cases r2 with
    | cons r2 r3 =>
    cases r3
    obtain ⟨b, vs, rfl, hb, hv⟩ := tp_tup r2
    walk_at "rf"
    refine r_ixT (SqT.of ha) (atI_nat (j := 0) rfl) ?_
    walk_at "rf"
    refine r_itep (show ("list" : Str) = "list" from rfl) ?_
    walk_at "rf"
    refine r_ixT (SqT.of ha) rfl ?_
    walk_at "rf"
    have hvl : vs.length = xs.length := by rw [tpAll_len hv, datL_map, List.length_map]
    refine ⟨b, vs, rfl, .inr (SqT.of hb), ?_⟩
    walk_at "rf"
    refine ⟨_, _, rfl, 4, (vs.length : Nat), rfl, rfl, by omega, by omega, fun p H2 np g2 s2 => ?_⟩
    rw [hvl] at g2
    have hz : (shH 4 (xs.length : Nat) ++ octL xs).length ≤ 16000000 := hz
    rw [List.length_append] at hz
    walk_at "rf"
    refine r_ixT (SqT.of (s2 _ _ ha)) rfl ?_
    walk_at "rf"
    have e0 : H2 p = some (.lst ((shH 4 (xs.length : Nat) ++ octL (xs.take 0)).map V.int)) := by
      rw [g2]
      simp [octL]
    refine ⟨b, rfl, ⟨vs, SqT.of (s2 _ _ hb)⟩, r_eachT (xs := vs) (fun i σ H' => Same H H' ∧ ∃ p y y3 y4, H' p = some (.lst ((shH 4 (xs.length : Nat) ++ octL (xs.take i)).map V.int)) ∧ H p = none ∧ σ = [some (.ref a), some (.ref p), y, y3, y4]) ⟨s2, p, none, none, none, e0, np, rfl⟩ (fun i σ H' q => SqT.of (q.1 _ _ hb)) ?_ ?_⟩
    · rintro i x σ H' hx ⟨s3, p, y, y3, y4, gp, np, rfl⟩
      obtain ⟨dd, hd, t2⟩ := tpAll_get hv hx
      rw [datL_map, List.getElem?_map] at hd
      cases he : xs[i]? with
      | none => rw [he] at hd; cases hd
      | some e =>
      rw [he] at hd
      cases hd
      have me := List.mem_of_getElem? he
      have le := octV_le he
      walk_at "rf"
      refine ⟨_, rfl, e, m, Tp.tk (Same.tk s3) _ _ t2, gfL_mem gf e me, fu.item me, by omega, by omega, fun q H4 nq g4 s4 => ?_⟩
      walk_at "rf"
      refine r_catB (s4 _ _ gp) g4 (by rw [List.length_append]; omega) fun q5 H5 n5 g5 s5 => ?_
      walk_at "rf"
      refine ⟨s3.trans (s4.trans s5), q5, _, _, _, ?_, (s3.trans s4).free n5, rfl⟩
      rw [octL_take he, ← List.append_assoc]
      exact g5
    · rintro σ H' ⟨s3, p, y, y3, y4, gp, np, rfl⟩
      rw [hvl, List.take_length] at gp
      walk_at "rf"
      exact h p H' np gp s3
theorem rec__law_written (F : FunD K "_law_written" "_law_written" (defArgs s__law_written) (defBody s__law_written) (defScope s__law_written) [] [] (glAd "_law_written" K) fd) (m : mg "_law_written" = some (.ref (glAd "_law_written" K))) (nb : Nm w K mg) (c__law_head : Cal P w K mg base 2 "_law_head" (sp__law_head K) []) (c__law_text : Cal P w K mg base 3 "_law_text" (sp__law_text K) []) (c__law_leaf_written : Cal P w K mg base 5 "_law_leaf_written" (sp__law_leaf_written K) []) : ∀ n, Cal P w K mg base (6 + n) "_law_written" (sp__law_written K n) []
  | 0 => calD (k := 5) F m sc__law_written (fun _ _ _ _ _ _ us hl => match us, hl with | [_], _ => rfl) (fun _ _ _ _ h => (no__law_written h).elim) (fun _ _ _ _ _ _ _ _ _ h => (no__law_written h).elim)
  | n + 1 => ok__law_written n F m nb c__law_head c__law_text c__law_leaf_written (rec__law_written F m nb c__law_head c__law_text c__law_leaf_written n)
end

/-! ### the law's own walk; the writer and what it tells -/




mutual
/-- how deep a value is at most -/
def Vl.lv : Nat → Vl → Prop
  | _, .lf _ _ => True
  | 0, .ls _ => False
  | n + 1, .ls xs => lvL n xs
  | 0, .mp _ => False
  | n + 1, .mp es => lvM n es
def lvL : Nat → List Vl → Prop
  | _, [] => True
  | n, x :: xs => x.lv n ∧ lvL n xs
def lvM : Nat → List (List Int × Vl) → Prop
  | _, [] => True
  | n, (_, v) :: es => v.lv n ∧ lvM n es
end
theorem lvL_mem : ∀ {n : Nat} {xs : List Vl}, lvL n xs → ∀ x ∈ xs, x.lv n
  | _, [], _, x, h => absurd h (by simp)
  | _, y :: ys, h, x, hx => by
    rcases List.mem_cons.mp hx with e | e
    · rw [e]
      exact h.1
    · exact lvL_mem h.2 x e
theorem lvM_mem : ∀ {n : Nat} {es : List (List Int × Vl)}, lvM n es → ∀ e ∈ es, e.2.lv n
  | _, [], _, x, h => absurd h (by simp)
  | _, (k, v) :: ys, h, x, hx => by
    rcases List.mem_cons.mp hx with e | e
    · rw [e]
      exact h.1
    · exact lvM_mem h.2 x e
theorem preL_app : ∀ xs ys : List Vl, preL (xs ++ ys) = preL xs ++ preL ys
  | [], _ => rfl
  | x :: xs, ys => by
    show preV x ++ preL (xs ++ ys) = preV x ++ preL xs ++ preL ys
    rw [preL_app xs ys, List.append_assoc]
theorem preL_take {xs : List Vl} {i : Nat} {x : Vl} (h : xs[i]? = some x) : preL (xs.take (i + 1)) = preL (xs.take i) ++ preV x := by
  rw [List.take_add_one, h, preL_app]
  congr 1
  exact List.append_nil _
theorem preL_le : ∀ (xs : List Vl) (i : Nat), (preL (xs.take i)).length ≤ (preL xs).length
  | [], i => by rw [List.take_nil]; exact Nat.le_refl _
  | x :: xs, 0 => Nat.zero_le _
  | x :: xs, i + 1 => by
    show (preV x ++ preL (xs.take i)).length ≤ (preV x ++ preL xs).length
    rw [List.length_append, List.length_append]
    have := preL_le xs i
    omega
theorem preV_le {xs : List Vl} {i : Nat} {x : Vl} (h : xs[i]? = some x) : (preL (xs.take i)).length + (preV x).length ≤ (preL xs).length := by
  have q := preL_le xs (i + 1)
  rw [preL_take h, List.length_append] at q
  exact q
def sp__law_walk (K : Frg) (n : Nat) : Sp := sp1 fun a H Q _ => ∃ (d : Vl) (m : Nat), TpV H a d ∧ d.lv m ∧ m < n ∧ (preV d).length ≤ 16000000 ∧ ∀ (p : Addr) (vs : List V) (H' : Hp), H p = none → H' p = some (.lst vs) → Paired (TpV H') vs (preV d) → Same H H' → Q (.ref p) H'
theorem no__law_walk {K : Frg} {vs : List V} {H : Hp} {Q : VK} {E : XK} (h : sp__law_walk K 0 vs H Q E) : False := by
  obtain ⟨_, _, d, m, _, _, h, _⟩ := h
  exact absurd h (Nat.not_lt_zero _)
def WrOk (K : Frg) (H : Hp) (a : V) (d : Vl) (m : Nat) (Q : VK) : Prop := TpV H a d ∧ NumAll d ∧ (preV d).length ≤ sizeLine ∧ TbL K H ∧ (fstL (preV d) = none → d.gf m ∧ Full d ∧ m < 26 ∧ (octV d).length ≤ 16000000 ∧ OutX K H (octV d) Q)
def sp_write_cbor (K : Frg) : Sp := sp1 fun a H Q E => ∃ (d : Vl) (m : Nat), WrOk K H a d m Q ∧ ∀ i, fstL (preV d) = some i → ∀ x H', H' x = some (.xd [("what", .int (i : Nat))]) → Same H H' → E (.ref (C_Unwritable K)) (some x) H'
def sp__law_told (K : Frg) : Sp := sp1 fun a H Q _ => ∃ (d : Vl) (m : Nat), WrOk K H a d m Q ∧ ∀ i, fstL (preV d) = some i → ∀ T H', H' T = some (.tup [.str "lacks", .int (i : Nat)]) → Same H H' → Q (.ref T) H'
/-- list + list -/
theorem r_catP {a b : Addr} {xs ys : List V} {H : Hp} {Q : VK} (h1 : H a = some (.lst xs)) (h2 : H b = some (.lst ys)) (hl : xs.length + ys.length ≤ 16700000) (h : ∀ p H', H p = none → H' p = some (.lst (xs ++ ys)) → Same H H' → Q (.ref p) H') : rCat (.ref a) (.ref b) H Q :=
  ⟨a, b, _, _, rfl, rfl, h1, h2, Nat.le_trans hl (by decide : 16700000 ≤ sizeLine), fun p hp => h p _ hp upd_same (same_upd hp _)⟩
def sp__law_lacks (K : Frg) : Sp := sp1 fun v H Q _ => ∃ (p : Addr) (k : Str) (xs : List V) (r : List PyData), v = .ref p ∧ H p = some (.tup (.str k :: xs)) ∧ TpAll H xs r ∧ NumK k r ∧ Q (.bl (lackK k r)) H
theorem OutX.same {K : Frg} {H H1 : Hp} {xs : List Int} {Q : VK} (h : OutX K H xs Q) (t : TbL K H) (s : Same H H1) : OutX K H1 xs Q := h.xt (Xt.of t s)
section
variable {P : Program} {w : World} {K : PySem.W.Frag} {mg : Str → Option Value} {base : Heap} {f : Addr} {fd : FuncData}
theorem ok_write_cbor (F : FunD K "write_cbor" "write_cbor" (defArgs s_write_cbor) (defBody s_write_cbor) (defScope s_write_cbor) [] [] (glAd "write_cbor" K) fd) (m : mg "write_cbor" = some (.ref (glAd "write_cbor" K))) (nb : Nm w K mg) (c_check_writable : CalX P w K mg base 6 "check_writable" (sp_check_writable K)) (c__octets_of : Cal P w K mg base 34 "_octets_of" (sp__octets_of K 26) []) : CalX P w K mg base 35 "write_cbor" (sp_write_cbor K) := by
  refine calXD F m sc_write_cbor (fun _ _ _ _ _ _ us hl => match us, hl with | [_], _ => rfl) len1 (fun cdv A outer s H vs Q E hr h => ⟨_, (pss_cons (ps_expr (pe_cX c_check_writable hr (by decide) rfl (takes_of rfl rfl rfl rfl) (pa_cons (pv 0) (pa_cons (pe_gc (v := .ref (glAd "is_lacking" K)) rfl ⟨_, nb.f_is_lacking, rfl⟩) pa_nil))))
    (pss_one (ps_ret (pe_c c__octets_of hr (by decide) rfl (pa_cons (pv 0) pa_nil))))), ?_⟩)
  obtain ⟨_, rfl, d, m, ⟨tp, nu, hz, tb, h1⟩, h2⟩ := h
  walk_at "rf"
  refine ⟨_, _, rfl, d, rfl, tp, nu, hz, fun e H1 s1 => ?_, h2⟩
  obtain ⟨q0, q1, q2, q3, q4⟩ := h1 e
  walk_at "rf"
  exact ⟨_, rfl, d, m, Tp.tk (Same.tk s1) _ _ tp.1, q0, q1, q2, q3, tb.ext s1, q4.same tb s1⟩
theorem ok__law_told (F : FunD K "_law_told" "_law_told" (defArgs s__law_told) (defBody s__law_told) (defScope s__law_told) [] [] (glAd "_law_told" K) fd) (m : mg "_law_told" = some (.ref (glAd "_law_told" K))) (nb : Nm w K mg) (z_AlikeError : Raz P w K mg base "AlikeError" (C_AlikeError K) "what") (c_write_cbor : CalX P w K mg base 35 "write_cbor" (sp_write_cbor K)) : Cal P w K mg base 36 "_law_told" (sp__law_told K) [] := by
  refine calD F m sc__law_told (fun _ _ _ _ _ _ us hl => match us, hl with | [_], _ => rfl) len1 (fun cdv A outer s H vs Q E hr h => ⟨_, (pss_one (ps_try_asE (i := 1) (Wout := fun _ _ _ _ => False) rfl rfl sc__law_told.nd rfl rfl ⟨rfl, by decide, .inl nb.g_AlikeError⟩ takes0 (fun W pn xe tk pw => ⟨_, (pss_one (ps_ret (pe_cX c_write_cbor hr (by decide) rfl tk (pa_cons (pv 0) pa_nil)))), rfl⟩)
    (fun a oe cls d pn hz hf => ⟨_, (pss_cons (ps_if (PW.pt (pw_or (pt_val (pe_callB (call_isX hz hf) (by rfl) nb.isinstance (by decide +kernel) (pa_cons (pv 1) (pa_cons (pe_gc (v := .ref (C_Unreadable K)) rfl ⟨_, nb.g_Unreadable, rfl⟩) pa_nil)))) (pw_or1 (pt_not (pt_val (pe_callB (call_isX hz hf) (by rfl) nb.isinstance (by decide +kernel) (pa_cons (pv 1) (pa_cons (pe_gc (v := .ref (C_Unwritable K)) rfl ⟨_, nb.g_Unwritable, rfl⟩) pa_nil))))))))
    (pss_one (ps_ret (pe_lstE (pa_cons pe_str pa_nil))))
    pss_nil)
    (pss_one (ps_ret (pe_tupE (pa_cons pe_str (pa_cons (pe_xf nb.x_Unwritable.xf nb.x_Unwritable.no hz hf (pv 1)) pa_nil)))))), rfl⟩))), ?_⟩)
  obtain ⟨_, rfl, d, m, ⟨tp, nu, hz, tb, h1⟩, h2⟩ := h
  walk_at "rf"
  refine ⟨_, rfl, d, m, ⟨tp, nu, hz, tb, fun e => ?_⟩, fun i e x H' hd c => ⟨true, nb.e_Unwritable_AlikeError, fun hxx hx => ?_, fun q => Bool.noConfusion q⟩⟩
  · obtain ⟨q0, q1, q2, q3, q4⟩ := h1 e
    refine ⟨q0, q1, q2, q3, fun p H' n g s' => ?_⟩
    walk_at "rf"
    exact q4 p H' n g s'
  · dsimp only
    intro _
    walk_at "rf"
    refine ⟨_, _, x, _, false, rfl, rfl, rfl, hd, nb.y_Unwritable, nb.i_Unwritable_Unreadable, ?_⟩
    walk_at "rf"
    refine ⟨_, _, x, _, true, rfl, rfl, rfl, hd, nb.y_Unwritable, nb.i_Unwritable_Unwritable, ?_⟩
    walk_at "rf"
    refine ⟨rfl, x, _, _, rfl, hd, lk_hit _ _ _, ?_⟩
    walk_at "rf"
    refine ⟨by show 2 ≤ sizeLine; decide, fun T H2 nT gT s2 => ?_⟩
    exact h2 i e T H2 gT (c.trans s2)
theorem ok__law_walk (n : Nat) (F : FunD K "_law_walk" "_law_walk" (defArgs s__law_walk) (defBody s__law_walk) (defScope s__law_walk) [] [] (glAd "_law_walk" K) fd) (m : mg "_law_walk" = some (.ref (glAd "_law_walk" K))) (nb : Nm w K mg) (c__law_walk : Cal P w K mg base (1 + n) "_law_walk" (sp__law_walk K n) []) : Cal P w K mg base (1 + n + 1) "_law_walk" (sp__law_walk K (n + 1)) [] := by
  refine calD F m sc__law_walk (fun _ _ _ _ _ _ us hl => match us, hl with | [_], _ => rfl) len1 (fun cdv A outer s H vs Q E hr h => ⟨_, (pss_cons (ps_set (i := 1) sc__law_walk.nd rfl (Or.inl rfl) (pe_lstE (pa_cons (pv 0) pa_nil)))
    (pss_cons (ps_if (pt_cmpR op_eq (pe_ix ix_tup (pv 0) pe_int (fun _ _ => rfl)) pe_str (nomark _))
    (pss_one (ps_for PassesOwn.never rfl (pi_tup (pe_ix ix_tup (pv 0) pe_int (fun _ _ => rfl))) (pg_name (i := 2) sc__law_walk.nd rfl (Or.inl rfl))
    (pss_one (ps_set (i := 1) sc__law_walk.nd rfl (Or.inl rfl) (pe_op op_cat (pv 1) (pe_c c__law_walk hr (by omega) rfl (pa_cons (pv 2) pa_nil)))))))
    pss_nil)
    (pss_cons (ps_if (pt_cmpR op_eq (pe_ix ix_tup (pv 0) pe_int (fun _ _ => rfl)) pe_str (nomark _))
    (pss_one (ps_for PassesOwn.never rfl (pi_tup (pe_ix ix_tup (pv 0) pe_int (fun _ _ => rfl))) (pg_name (i := 3) sc__law_walk.nd rfl (Or.inl rfl))
    (pss_one (ps_set (i := 1) sc__law_walk.nd rfl (Or.inl rfl) (pe_op op_cat (pv 1) (pe_c c__law_walk hr (by omega) rfl (pa_cons (pe_ix ix_tup (pv 3) pe_int (fun _ _ => rfl)) pa_nil)))))))
    pss_nil)
    (pss_one (ps_ret (pv 1)))))), ?_⟩)
  obtain ⟨v, rfl, d, m, ⟨t, wd⟩, lv, hm, hz, h⟩ := h
  -- 0:value 1:found 2:item 3:entry
  walk_at "rf"
  refine ⟨by show 1 ≤ sizeLine; decide, fun p H2 np g2 s2 => ?_⟩
  have g2 : H2 p = some (.lst [v]) := g2
  cases d with
  | lf k r =>
    obtain ⟨a, us, rfl, ha, hu⟩ := tp_tup t
    cases hu with
    | cons r1 r2 =>
    cases r1
    have ha2 := s2 _ _ ha
    walk_at "rf"
    refine r_ixT (SqT.of ha2) (atI_nat (j := 0) rfl) ?_
    walk_at "rf"
    refine r_iteN wd.1 ?_
    walk_at "rf"
    refine r_ixT (SqT.of ha2) (atI_nat (j := 0) rfl) ?_
    walk_at "rf"
    refine r_iteN wd.2 ?_
    walk_at "rf"
    exact h p _ H2 np g2 (.cons (TpV.tk (Same.tk s2) ⟨t, wd⟩) .nil) s2
  | ls xs =>
    obtain ⟨m, rfl⟩ : ∃ q, m = q + 1 := by
      cases m with
      | zero => exact lv.elim
      | succ m => exact ⟨m, rfl⟩
    have lv : lvL m xs := lv
    obtain ⟨a, us, rfl, ha, hu⟩ := tp_tup t
    cases hu with
    | cons r1 r2 =>
    cases r1
    cases r2 with
    | cons r2 r3 =>
    cases r3
    obtain ⟨b, vs, rfl, hb, hv⟩ := tp_tup r2
    walk_at "rf"
    refine r_ixT (SqT.of (s2 _ _ ha)) rfl ?_
    walk_at "rf"
    refine r_itep (show ("list" : Str) = "list" from rfl) ?_
    walk_at "rf"
    refine r_ixT (SqT.of (s2 _ _ ha)) rfl ?_
    walk_at "rf"
    have hz : (Vl.ls xs :: preL xs).length ≤ 16000000 := hz
    rw [List.length_cons] at hz
    have pv := tpV_all hv wd.2
    have hvl := Paired.length pv
    refine ⟨b, rfl, ⟨vs, SqT.of (s2 _ _ hb)⟩, r_eachT (xs := vs) (fun i σ H' => Same H H' ∧ ∃ p ws y y2, H' p = some (.lst ws) ∧ Paired (TpV H') ws (Vl.ls xs :: preL (xs.take i)) ∧ H p = none ∧ σ = [some (.ref a), some (.ref p), y, y2]) ⟨s2, p, _, none, none, g2, .cons (TpV.tk (Same.tk s2) ⟨t, wd⟩) .nil, np, rfl⟩ (fun i σ H' q => SqT.of (q.1 _ _ hb)) ?_ ?_⟩
    · rintro i x σ H' hx ⟨s3, p, ws, y, y2, gp, pp, np, rfl⟩
      obtain ⟨e, he, t2⟩ := paired_get pv hx
      have le := preV_le he
      have lw := Paired.length pp
      rw [List.length_cons] at lw
      walk_at "rf"
      refine ⟨_, rfl, e, m, t2.tk (Same.tk s3), lvL_mem lv e (List.mem_of_getElem? he), by omega, by omega, fun q us H4 nq g4 pq s4 => ?_⟩
      have lq := Paired.length pq
      walk_at "rf"
      refine r_catP (s4 _ _ gp) g4 (by omega) fun q5 H5 n5 g5 s5 => ?_
      walk_at "rf"
      refine ⟨s3.trans (s4.trans s5), q5, _, _, _, g5, ?_, (s3.trans s4).free n5, rfl⟩
      rw [preL_take he]
      exact paired_app (paired_imp (fun _ _ z => TpV.tk (Same.tk (s4.trans s5)) z) pp) (paired_imp (fun _ _ z => TpV.tk (Same.tk s5) z) pq)
    · rintro σ H' ⟨s3, p, ws, y, y2, gp, pp, np, rfl⟩
      rw [hvl, List.take_length] at pp
      walk_at "rf"
      refine r_ixT (SqT.of (s3 _ _ ha)) rfl ?_
      walk_at "rf"
      refine r_iteN (show ¬ ("list" : Str) = "map" by decide +kernel) ?_
      walk_at "rf"
      exact h p ws H' np gp pp s3
  | mp es =>
    obtain ⟨m, rfl⟩ : ∃ q, m = q + 1 := by
      cases m with
      | zero => exact lv.elim
      | succ m => exact ⟨m, rfl⟩
    have lv : lvM m es := lv
    obtain ⟨a, us, rfl, ha, hu⟩ := tp_tup t
    cases hu with
    | cons r1 r2 =>
    cases r1
    cases r2 with
    | cons r2 r3 =>
    cases r3
    obtain ⟨b, vs, rfl, hb, hv⟩ := tp_tup r2
    walk_at "rf"
    refine r_ixT (SqT.of (s2 _ _ ha)) rfl ?_
    walk_at "rf"
    refine r_iteN (show ¬ ("map" : Str) = "list" by decide +kernel) ?_
    walk_at "rf"
    refine r_ixT (SqT.of (s2 _ _ ha)) rfl ?_
    walk_at "rf"
    refine r_itep (show ("map" : Str) = "map" from rfl) ?_
    walk_at "rf"
    refine r_ixT (SqT.of (s2 _ _ ha)) rfl ?_
    walk_at "rf"
    have hz : (Vl.mp es :: preM es).length ≤ 16000000 := hz
    rw [List.length_cons, preM_eq, ← preL_eq] at hz
    have hvl : vs.length = es.length := by rw [tpAll_len hv, datM_map, List.length_map]
    refine ⟨b, rfl, ⟨vs, SqT.of (s2 _ _ hb)⟩, r_eachT (xs := vs) (fun i σ H' => Same H H' ∧ ∃ p ws y y2, H' p = some (.lst ws) ∧ Paired (TpV H') ws (Vl.mp es :: preL ((es.map (·.2)).take i)) ∧ H p = none ∧ σ = [some (.ref a), some (.ref p), y, y2]) ⟨s2, p, _, none, none, g2, .cons (TpV.tk (Same.tk s2) ⟨t, wd⟩) .nil, np, rfl⟩ (fun i σ H' q => SqT.of (q.1 _ _ hb)) ?_ ?_⟩
    · rintro i x σ H' hx ⟨s3, p, ws, y, y2, gp, pp, np, rfl⟩
      obtain ⟨dd, hd, t2⟩ := tpAll_get hv hx
      rw [datM_map, List.getElem?_map] at hd
      cases he : es[i]? with
      | none => rw [he] at hd; cases hd
      | some en =>
      rw [he] at hd
      cases hd
      obtain ⟨c, zs, rfl, hc, re⟩ := tp_tup t2
      cases re with
      | cons q1 re =>
      cases re with
      | cons q2 re =>
      cases re
      have he2 : (es.map (·.2))[i]? = some en.2 := by rw [List.getElem?_map, he]; rfl
      have le := preV_le he2
      have lw := Paired.length pp
      rw [List.length_cons] at lw
      have me := List.mem_of_getElem? he
      have t3 : TpV H _ en.2 := ⟨q2, wdM_mem wd.2 en me⟩
      walk_at "rf"
      refine r_ixT (SqT.of (s3 _ _ hc)) (atI_nat (j := 1) rfl) ?_
      walk_at "rf"
      refine ⟨_, rfl, en.2, m, t3.tk (Same.tk s3), lvM_mem lv en me, by omega, by omega, fun q us H4 nq g4 pq s4 => ?_⟩
      have lq := Paired.length pq
      walk_at "rf"
      refine r_catP (s4 _ _ gp) g4 (by omega) fun q5 H5 n5 g5 s5 => ?_
      walk_at "rf"
      refine ⟨s3.trans (s4.trans s5), q5, _, _, _, g5, ?_, (s3.trans s4).free n5, rfl⟩
      rw [preL_take he2]
      exact paired_app (paired_imp (fun _ _ z => TpV.tk (Same.tk (s4.trans s5)) z) pp) (paired_imp (fun _ _ z => TpV.tk (Same.tk s5) z) pq)
    · rintro σ H' ⟨s3, p, ws, y, y2, gp, pp, np, rfl⟩
      rw [hvl, List.take_of_length_le (by rw [List.length_map]; exact Nat.le_refl _), preL_eq, ← preM_eq] at pp
      walk_at "rf"
      exact h p ws H' np gp pp s3
theorem rec__law_walk (F : FunD K "_law_walk" "_law_walk" (defArgs s__law_walk) (defBody s__law_walk) (defScope s__law_walk) [] [] (glAd "_law_walk" K) fd) (m : mg "_law_walk" = some (.ref (glAd "_law_walk" K))) (nb : Nm w K mg) : ∀ n, Cal P w K mg base (1 + n) "_law_walk" (sp__law_walk K n) []
  | 0 => calD (k := 0) F m sc__law_walk (fun _ _ _ _ _ _ us hl => match us, hl with | [_], _ => rfl) (fun _ _ _ _ h => (no__law_walk h).elim) (fun _ _ _ _ _ _ _ _ _ h => (no__law_walk h).elim)
  | n + 1 => ok__law_walk n F m nb (rec__law_walk F m nb n)
theorem ok__law_lacks (F : FunD K "_law_lacks" "_law_lacks" (defArgs s__law_lacks) (defBody s__law_lacks) (defScope s__law_lacks) [] [] (glAd "_law_lacks" K) fd) (m : mg "_law_lacks" = some (.ref (glAd "_law_lacks" K))) (nb : Nm w K mg) : Cal P w K mg base 1 "_law_lacks" (sp__law_lacks K) [] := by
  refine calD F m sc__law_lacks (fun _ _ _ _ _ _ us hl => match us, hl with | [_], _ => rfl) len1 (fun cdv A outer s H vs Q E hr h => ⟨_, (pss_one (ps_ret (pe_and (pe_cmpR op_eq (pe_ix ix_tup (pv 0) pe_int (fun _ _ => rfl)) pe_str (nomark _)) (pe_one (pe_or (pe_cmpR op_lt (pe_ix ix_tup (pv 0) pe_int (fun _ _ => rfl)) (pe_un un_neg (pe_op op_pow pe_int pe_int)) (nomark _)) (pe_one (pe_cmpR op_gt (pe_ix ix_tup (pv 0) pe_int (fun _ _ => rfl)) (pe_op op_pow pe_int pe_int) (nomark _)))))))), ?_⟩)
  obtain ⟨_, rfl, p, k, xs, r, rfl, hp, hx, lgx, h⟩ := h
  have num : ∀ m e : Int, r = [.int m, .int e] → xs = [.int m, .int e] := fun m e er => by
    subst er
    cases hx with
    | cons h1 h2 =>
      cases h1
      cases h2 with
      | cons h1 h2 =>
        cases h1
        cases h2
        rfl
  walk_at "rf"
  refine r_ixT (SqT.of hp) (atI_nat (j := 0) rfl) ?_
  walk_at "rf"
  by_cases c : k = "number"
  · obtain ⟨m, e, er⟩ := lgx c
    have ex := num m e er
    subst c er ex
    have el : lackK "number" [.int m, .int e] = !(decide (-1000000000 ≤ e) && decide (e ≤ 1000000000)) := if_pos rfl
    rw [el] at h
    rw [if_pos (decide_eq_true rfl)]
    walk_at "rf"
    refine r_ixT (SqT.of hp) (atI_nat (j := 2) rfl) ?_
    walk_at "rf"
    by_cases c1 : e < -1000000000
    · rw [decide_eq_false (show ¬ -1000000000 ≤ e by omega)] at h
      rw [if_pos (decide_eq_true (show e < -10 ^ Int.toNat 9 from c1))]
      exact h
    · rw [decide_eq_true (show -1000000000 ≤ e by omega), Bool.true_and] at h
      rw [if_neg (show ¬ decide (e < -10 ^ Int.toNat 9) = true from fun z => c1 (of_decide_eq_true z))]
      walk_at "rf"
      refine r_ixT (SqT.of hp) (atI_nat (j := 2) rfl) ?_
      walk_at "rf"
      have el2 : (!decide (e ≤ 1000000000)) = decide (1000000000 < e) := by
        rw [← decide_not]
        exact decide_eq_decide.mpr (by omega)
      rw [el2] at h
      exact h
  · have el : lackK k r = false := if_neg c
    rw [el] at h
    rw [if_neg (by rw [decide_eq_false c]; decide)]
    exact h
end

/-! ### the drawn values: depth, width, size -/
theorem lg_kind {k : Str} {r : List PyData} (h : Lc k r) : k ≠ "list" ∧ k ≠ "map" := by
  cases h <;> exact ⟨by decide +kernel, by decide +kernel⟩
mutual
theorem gf_wd : ∀ (n : Nat) (t : Vl), t.gf n → t.wd ∧ t.lv n
  | n, .lf k r, h => ⟨lg_kind (k := k) (r := r) (by cases n <;> exact h), by cases n <;> exact trivial⟩
  | 0, .ls _, h => h.elim
  | 0, .mp _, h => h.elim
  | n + 1, .ls xs, h => by
    have q := gfL_wd n xs h.2
    exact ⟨⟨Nat.le_trans h.1 (by decide), q.1⟩, q.2⟩
  | n + 1, .mp es, h => by
    have q := gfM_wd n es h.2.2.2
    exact ⟨⟨Nat.le_trans h.1 (by decide), q.1⟩, q.2⟩
theorem gfL_wd : ∀ (n : Nat) (xs : List Vl), gfL n xs → wdL xs ∧ lvL n xs
  | _, [], _ => ⟨trivial, trivial⟩
  | n, x :: xs, h => by
    have a := gf_wd n x h.1
    have b := gfL_wd n xs h.2
    exact ⟨⟨a.1, b.1⟩, a.2, b.2⟩
theorem gfM_wd : ∀ (n : Nat) (es : List (List Int × Vl)), gfM n es → wdM es ∧ lvM n es
  | _, [], _ => ⟨trivial, trivial⟩
  | n, (k, v) :: es, h => by
    have a := gf_wd n v h.1
    have b := gfM_wd n es h.2
    exact ⟨⟨a.1, b.1⟩, a.2, b.2⟩
end
mutual
theorem pre_vsz : ∀ t : Vl, (preV t).length ≤ vsz t
  | .lf _ _ => Nat.le_refl _
  | .ls xs => by
    have := preL_vsz xs
    show (preL xs).length + 1 ≤ 1 + vszL xs
    omega
  | .mp es => by
    have := preM_vsz es
    show (preM es).length + 1 ≤ 1 + vszM es
    omega
theorem preL_vsz : ∀ xs : List Vl, (preL xs).length ≤ vszL xs
  | [] => Nat.le_refl _
  | x :: xs => by
    have a := pre_vsz x
    have b := preL_vsz xs
    show (preV x ++ preL xs).length ≤ vsz x + vszL xs
    rw [List.length_append]
    omega
theorem preM_vsz : ∀ es : List (List Int × Vl), (preM es).length ≤ vszM es
  | [] => Nat.le_refl _
  | (k, v) :: es => by
    have a := pre_vsz v
    have b := preM_vsz es
    show (preV v ++ preM es).length ≤ 1 + vsz v + vszM es
    rw [List.length_append]
    omega
end
mutual
theorem gf_num : ∀ (n : Nat) (t : Vl), t.gf n → ∀ x ∈ preV t, NumK (kindV x) (restV x)
  | n, .lf k r, h => fun x hx => by
    rw [List.mem_singleton.mp hx]
    exact num_lc (k := k) (r := r) (by cases n <;> exact h)
  | 0, .ls _, h => h.elim
  | 0, .mp _, h => h.elim
  | n + 1, .ls xs, h => fun x hx => by
    rcases List.mem_cons.mp hx with e | e
    · rw [e]
      exact fun z => absurd z (show ¬ ("list" : Str) = "number" by decide +kernel)
    · exact gfL_num n xs h.2 x e
  | n + 1, .mp es, h => fun x hx => by
    rcases List.mem_cons.mp hx with e | e
    · rw [e]
      exact fun z => absurd z (show ¬ ("map" : Str) = "number" by decide +kernel)
    · exact gfM_num n es h.2.2.2 x e
theorem gfL_num : ∀ (n : Nat) (xs : List Vl), gfL n xs → ∀ x ∈ preL xs, NumK (kindV x) (restV x)
  | _, [], _ => fun x hx => absurd hx (by show ¬ x ∈ []; simp)
  | n, y :: ys, h => fun x hx => by
    rcases List.mem_append.mp hx with e | e
    · exact gf_num n y h.1 x e
    · exact gfL_num n ys h.2 x e
theorem gfM_num : ∀ (n : Nat) (es : List (List Int × Vl)), gfM n es → ∀ x ∈ preM es, NumK (kindV x) (restV x)
  | _, [], _ => fun x hx => absurd hx (by show ¬ x ∈ []; simp)
  | n, (k, v) :: ys, h => fun x hx => by
    rcases List.mem_append.mp hx with e | e
    · exact gf_num n v h.1 x e
    · exact gfM_num n ys h.2 x e
end
theorem len_txtO {ps : List Int} (h : ps.length ≤ 200) : (txtO ps).length ≤ 809 := by
  have a := shH_len 3 ((encs ps).length : Nat)
  have b := len_encs ps
  unfold txtO
  rw [List.length_append]
  omega
theorem intO_small {z : Int} (h : z.natAbs ≤ 1000000000) : (intO z).length ≤ 9 := by
  have h2 : (if z < 0 then -1 - z else z) < 18446744073709551616 := by split <;> omega
  unfold intO
  rw [if_pos h2]
  exact shH_len _ _
theorem len_lfO {k : Str} {r : List PyData} (h : Lb k r) : (lfO k r).length ≤ 881 := by
  cases h with
  | number m e hm h0 h1 =>
    show (numO m e).length ≤ 881
    unfold numO
    split
    · rename_i c
      have hb : (m * 10 ^ e.toNat).natAbs < 256 ^ 840 := by
        rw [Int.natAbs_mul, Int.natAbs_pow]
        have e2 : e.toNat ≤ 64 := by omega
        refine Nat.lt_of_lt_of_le (Nat.mul_lt_mul_of_lt_of_le hm (pow10_le e2) (Nat.pow_pos (by decide))) ?_
        rw [← Nat.pow_add]
        exact b444
      have := intO_len hb
      omega
    · have hb : m.natAbs < 256 ^ 840 := Nat.lt_of_lt_of_le hm (Nat.le_trans (pow10_le (by decide)) b444)
      have q1 := intO_len hb
      have q2 := intO_small (z := e) (by omega)
      have q3 : (shH 6 4).length = 1 := by rw [shH_low (by decide)]; rfl
      have q4 : (shH 4 2).length = 1 := by rw [shH_low (by decide)]; rfl
      rw [List.length_append, List.length_append, List.length_append, q3, q4]
      omega
  | bytes os ho =>
    rw [lfO_bytes, List.length_append]
    have := shH_len 2 (os.length : Nat)
    omega
  | text ps hp _ =>
    have := len_txtO hp
    rw [lfO_text]
    omega
  | truth b =>
    show 1 ≤ 881
    decide
  | null =>
    show 1 ≤ 881
    decide
theorem octM_perm {xs ys : List (List Int × Vl)} (h : xs.Perm ys) : (octM xs).length = (octM ys).length := by
  unfold octM
  exact (h.flatMap_right _).length_eq
mutual
theorem oct_vsz : ∀ (n : Nat) (t : Vl), t.gf n → Full t → (octV t).length ≤ 881 * vsz t
  | n, .lf k r, h, f => len_lfO (Full.leaf h f)
  | 0, .ls _, h, _ => h.elim
  | 0, .mp _, h, _ => h.elim
  | n + 1, .mp es, h, f => by
    have := octM_vsz n es h.2.2.2 h.2.2.1 fun x hx => f x (List.mem_cons_of_mem _ hx)
    have q := shH_len 5 (es.length : Nat)
    rw [octV_mp, List.length_append, octM_perm (srtE_perm es)]
    show _ ≤ 881 * (1 + vszM es)
    omega
  | n + 1, .ls xs, h, f => by
    have := octL_vsz n xs h.2 fun x hx => f x (List.mem_cons_of_mem _ hx)
    have q := shH_len 4 (xs.length : Nat)
    show (shH 4 (xs.length : Nat) ++ octL xs).length ≤ 881 * (1 + vszL xs)
    rw [List.length_append]
    omega
theorem octL_vsz : ∀ (n : Nat) (xs : List Vl), gfL n xs → (∀ x ∈ preL xs, lackV x = false) → (octL xs).length ≤ 881 * vszL xs
  | _, [], _, _ => Nat.zero_le _
  | n, x :: xs, h, f => by
    have a := oct_vsz n x h.1 fun y hy => f y (List.mem_append_left _ hy)
    have b := octL_vsz n xs h.2 fun y hy => f y (List.mem_append_right _ hy)
    show (octV x ++ octL xs).length ≤ 881 * (vsz x + vszL xs)
    rw [List.length_append]
    omega
theorem octM_vsz : ∀ (n : Nat) (es : List (List Int × Vl)), gfM n es → (∀ e ∈ es, Kp e.1) → (∀ x ∈ preM es, lackV x = false) → (octM es).length ≤ 881 * vszM es
  | _, [], _, _, _ => Nat.zero_le _
  | n, (k, v) :: es, h, hk, f => by
    have a := oct_vsz n v h.1 fun y hy => f y (List.mem_append_left _ hy)
    have b := octM_vsz n es h.2 (fun e he => hk e (List.mem_cons_of_mem _ he)) fun y hy => f y (List.mem_append_right _ hy)
    have k2 : k.length ≤ 200 := (hk _ (List.mem_cons_self ..)).1
    have c := len_txtO k2
    show ((txtO k ++ octV v) ++ octM es).length ≤ 881 * (1 + vsz v + vszM es)
    rw [List.length_append, List.length_append]
    omega
end
/-! ### what is written are octets -/
def Oct8 (xs : List Int) : Prop := ∀ o ∈ xs, 0 ≤ o ∧ o ≤ 255
theorem Oct8.app {xs ys : List Int} (h : Oct8 xs) (k : Oct8 ys) : Oct8 (xs ++ ys) := fun o ho => (List.mem_append.mp ho).elim (h o) (k o)
theorem oct_be : ∀ (k : Nat) (n : Int), Oct8 (be k n) := fun k n o ho => by
  obtain ⟨i, hi⟩ := List.getElem?_of_mem ho
  have hk : i < k := by
    have := (List.getElem?_eq_some_iff.mp hi).1
    rw [be_len] at this
    exact this
  rw [be_get n k i hk] at hi
  cases hi
  omega
theorem oct_shH {m n : Int} (hm : 0 ≤ m ∧ m ≤ 7) (h0 : 0 ≤ n) : Oct8 (shH m n) := by
  unfold shH headI
  intro o ho
  rcases List.mem_cons.mp ho with e | e
  · subst e
    have : 0 ≤ shI n ∧ shI n ≤ 27 := by
      unfold shI
      repeat (first | split | omega)
    omega
  · exact oct_be _ _ o e
theorem oct_enc1 {c : Int} (h : Point c) : Oct8 (enc1 c) := by
  obtain ⟨h0, h1, _⟩ := h
  by_cases c1 : c < 128
  · rw [enc_low c1]
    intro o ho
    rw [List.mem_singleton.mp ho]
    omega
  · rcases enc_long (c := c) (by omega) with ⟨_, _, e⟩ | ⟨_, _, _, e⟩ | ⟨_, _, e⟩ <;> rw [e] <;> intro o ho <;> simp only [List.mem_cons, List.not_mem_nil, or_false] at ho <;> omega
theorem oct_encs {cs : List Int} (h : ∀ c ∈ cs, Point c) : Oct8 (encs cs) := fun o ho => by
  obtain ⟨c, hc, hoc⟩ := List.mem_flatMap.mp ho
  exact oct_enc1 (h c hc) o hoc
theorem oct_txtO {cs : List Int} (h : ∀ c ∈ cs, Point c) : Oct8 (txtO cs) := (oct_shH (by decide) (Int.natCast_nonneg _)).app (oct_encs h)
theorem oct_intO (z : Int) : Oct8 (intO z) := by
  have h0 : 0 ≤ (if z < 0 then -1 - z else z) := by split <;> omega
  unfold intO
  generalize (if z < 0 then -1 - z else z) = n at h0 ⊢
  have hm : 0 ≤ (if z < 0 then (1 : Int) else 0) ∧ (if z < 0 then (1 : Int) else 0) ≤ 7 := by split <;> decide
  split
  · exact oct_shH hm h0
  · refine ((oct_shH (by decide) (by split <;> decide)).app (oct_shH (by decide) (Int.natCast_nonneg _))).app (oct_be _ _)
theorem oct_numO (m e : Int) : Oct8 (numO m e) := by
  unfold numO
  split
  · exact oct_intO _
  · exact (((oct_shH (by decide) (by decide)).app (oct_shH (by decide) (by decide))).app (oct_intO _)).app (oct_intO _)
theorem oct_lfO {k : Str} {r : List PyData} (h : Lc k r) : Oct8 (lfO k r) := by
  cases h with
  | number m e _ => exact oct_numO m e
  | bytes os ho =>
    rw [lfO_bytes]
    exact (oct_shH (by decide) (Int.natCast_nonneg _)).app ho.2
  | text ps hp =>
    rw [lfO_text]
    exact oct_txtO hp.2
  | truth b =>
    intro o ho
    have ho : o ∈ [244 + if b = true then (1 : Int) else 0] := ho
    rw [List.mem_singleton.mp ho]
    cases b <;> decide
  | null =>
    intro o ho
    have ho : o ∈ [(246 : Int)] := ho
    rw [List.mem_singleton.mp ho]
    decide
theorem oct_octM {es : List (List Int × Vl)} (hk : ∀ e ∈ es, Kp e.1) (h : ∀ e ∈ es, Oct8 (octV e.2)) : Oct8 (octM es) := fun o ho => by
  obtain ⟨e, he, h2⟩ := List.mem_flatMap.mp ho
  exact ((oct_txtO (hk e he).2).app (h e he)) o h2
mutual
theorem oct_octV : ∀ (n : Nat) (t : Vl), t.gf n → Oct8 (octV t)
  | n, .lf k r, h => oct_lfO (k := k) (r := r) (by cases n <;> exact h)
  | 0, .ls _, h => h.elim
  | 0, .mp _, h => h.elim
  | n + 1, .ls xs, h => (oct_shH (by decide) (Int.natCast_nonneg _)).app (oct_octL n xs h.2)
  | n + 1, .mp es, h => by
    rw [octV_mp]
    refine (oct_shH (by decide) (Int.natCast_nonneg _)).app (oct_octM (fun e he => h.2.2.1 e ((srtE_perm es).mem_iff.mp he)) fun e he => oct_octE n es h.2.2.2 e ((srtE_perm es).mem_iff.mp he))
theorem oct_octL : ∀ (n : Nat) (xs : List Vl), gfL n xs → Oct8 (octL xs)
  | _, [], _ => fun o ho => absurd ho (by show ¬ o ∈ []; simp)
  | n, x :: xs, h => (oct_octV n x h.1).app (oct_octL n xs h.2)
theorem oct_octE : ∀ (n : Nat) (es : List (List Int × Vl)), gfM n es → ∀ e ∈ es, Oct8 (octV e.2)
  | _, [], _ => fun e he => absurd he (by simp)
  | n, (k, v) :: es, h => fun e he => by
    rcases List.mem_cons.mp he with q | q
    · rw [q]
      exact oct_octV n v h.1
    · exact oct_octE n es h.2 e q
end
theorem fst_all {ds : List Vl} (h : fstL ds = none) : ∀ x ∈ ds, lackV x = false := by
  unfold fstL at h
  rw [List.findIdx?_eq_none_iff] at h
  intro x hx
  have := h x hx
  simpa using this
/-- the places of what is lacking -/
def isLk (ds : List Vl) (k : Nat) : Bool := match ds[k]? with
  | some d => lackV d
  | none => false
def dueL (ds : List Vl) (i : Nat) : List Int := ((List.range i).filter (isLk ds)).map fun (k : Nat) => (k : Int)
theorem dueL_succ {ds : List Vl} {i : Nat} {d : Vl} (h : ds[i]? = some d) : dueL ds (i + 1) = dueL ds i ++ if lackV d then [(i : Int)] else [] := by
  unfold dueL
  have e : isLk ds i = lackV d := by
    unfold isLk
    rw [h]
  rw [List.range_succ, List.filter_append, List.map_append, List.filter_cons, e]
  cases lackV d <;> rfl
theorem dueL_none {ds : List Vl} (h : fstL ds = none) : ∀ i, i ≤ ds.length → dueL ds i = []
  | 0, _ => rfl
  | i + 1, hi => by
    have e : ds[i]? = some ds[i] := List.getElem?_eq_getElem hi
    rw [dueL_succ e, dueL_none h i (Nat.le_of_succ_le hi), fst_all h _ (List.getElem_mem hi)]
    rfl
theorem fst_at : ∀ {ds : List Vl} {i : Nat}, fstL ds = some i → (∀ j < i, ∀ x, ds[j]? = some x → lackV x = false) ∧ ∃ d, ds[i]? = some d ∧ lackV d = true
  | [], i, h => by cases h
  | d :: ds, i, h => by
    unfold fstL at h
    rw [List.findIdx?_cons] at h
    cases c : lackV d with
    | true =>
      rw [c] at h
      cases h
      exact ⟨fun j hj => absurd hj (Nat.not_lt_zero j), d, rfl, c⟩
    | false =>
      rw [c] at h
      cases q : List.findIdx? lackV ds with
      | none => rw [q] at h; cases h
      | some k =>
        rw [q] at h
        cases h
        obtain ⟨a, e, b1, b2⟩ := fst_at (ds := ds) (i := k) q
        refine ⟨fun j hj x hx => ?_, e, by simpa using b1, b2⟩
        cases j with
        | zero =>
          cases (show some d = some x from hx)
          exact c
        | succ j => exact a j (Nat.lt_of_succ_lt_succ hj) x (by simpa using hx)
theorem dueL_some {ds : List Vl} {i : Nat} (h : fstL ds = some i) : ∃ r, dueL ds ds.length = (i : Int) :: r := by
  obtain ⟨a, d, e, c⟩ := fst_at h
  have hi : i < ds.length := (List.getElem?_eq_some_iff.mp e).1
  have z : ∀ j, j ≤ i → dueL ds j = [] := fun j => by
    induction j with
    | zero => exact fun _ => rfl
    | succ j ih =>
      intro hj
      have e2 : ds[j]? = some ds[j] := List.getElem?_eq_getElem (by omega)
      rw [dueL_succ e2, ih (by omega), a j (by omega) _ e2]
      rfl
  have s : ∀ j, i < j → j ≤ ds.length → ∃ r, dueL ds j = (i : Int) :: r := fun j => by
    induction j with
    | zero => exact fun h => absurd h (Nat.not_lt_zero i)
    | succ j ih =>
      intro h1 h2
      have e2 : ds[j]? = some ds[j] := List.getElem?_eq_getElem (by omega)
      by_cases q : j = i
      · subst q
        rw [dueL_succ e, z j (Nat.le_refl j), c]
        exact ⟨[], rfl⟩
      · obtain ⟨r, hr⟩ := ih (by omega) (by omega)
        rw [dueL_succ e2, hr]
        exact ⟨r ++ _, rfl⟩
  exact s _ hi (Nat.le_refl _)
theorem dueL_len (ds : List Vl) (i : Nat) : (dueL ds i).length ≤ i := by
  unfold dueL
  rw [List.length_map]
  exact Nat.le_trans (List.length_filter_le _ _) (Nat.le_of_eq List.length_range)

/-! ### the law's def at the caller of claims alone, where nothing is guarded -/
section
variable {P : Program} {w : World} {K : Frg} {mg mb : Str → Option Value} {s₁ : Shared} {a fa : Addr} {vs : List Value} {ns : List Int} {H : Hp}
/-- what the law's def does when it is called at the top of all -/
def AtTop (P : Program) (w : World) (K : Frg) (mg : Str → Option Value) (fa a : Addr) (s₁ : Shared) (base : Heap) (H : Hp) : Prop :=
  Env0 P w K mg base callerA [] s₁ H → codeAny (model P w) callerA (.call (.ref fa) ⟨[.ref a], []⟩) (CR CX0 [] P w H s₁ (fun v _ => v = V.bl true) fun _ _ _ => False) s₁
def TopEnd (s₁ : Shared) (r : Result) (s' : Shared) : Prop := r = .ok (.ret (.bool true)) ∧ OldK s₁.heap s'.heap ∧ s'.os = s₁.os ∧ PyProof.Rows.AllBare s'.gens
theorem top_end {r : Result} {s' : Shared} (hO : Only H) (hok : HOk P w H s₁.heap) (h : CR CX0 [] P w H s₁ (fun v _ => v = V.bl true) (fun _ _ _ => False) r s') : TopEnd s₁ r s' := by
  match r, h with
  | .error e, h => exact h.elim
  | .ok .next, h => exact h.elim
  | .ok .brk, h => exact h.elim
  | .ok .cont, h => exact h.elim
  | .ok (.ret u), h =>
    obtain ⟨v, H2, os, bare, un, hok2, ru, e⟩ := h
    have e : v = V.bl true := e
    subst e
    have ru : u = Value.bool true := ru
    subst ru
    refine ⟨rfl, OldK.of_keep fun b o eb => ?_, os, bare⟩
    rcases hO b with z | ⟨ob, xs, z⟩
    · exact un.keep b o eb z (fun m => absurd m (by simp [frs])) (by simp)
    · have k1 := (hok b _ z).1
      have k2 := (hok2 b _ (un.frzs b ob _ z)).1
      rw [k1] at eb
      cases eb
      exact k2
theorem top_core (KX : K.In s₁.heap) (gl : s₁.heap.Ns mainGlobals mg) (bu : s₁.heap.Ns builtinsNs mb) (bb : ∀ x : Str, x ≠ "__name__" → mb x = bootBuiltins x) (nl : s₁.heap.NoLimit) (gn : s₁.gens = #[])
    (ea : s₁.heap.get? a = some { cls := .type "list", data := .seq vs.toArray }) (hO : Only H) (hok : HOk P w H s₁.heap) (hA : ∀ b, H b ≠ none → b = a ∧ K.lookup a = none)
    (R : ∀ base, K.In base → base.Ns mainGlobals mg → AtTop P w K mg fa a s₁ base H) : codeAny (model P w) callerA (.call (.ref fa) ⟨[.ref a], []⟩) (TopEnd s₁) s₁ := by
  have nK : ∀ b o, K.lookup b = some o → H b = none := fun b o e => Classical.byContradiction fun z => by
    obtain ⟨y, q⟩ := hA b z
    rw [y, q] at e
    cases e
  have nD : ∀ b o es ep, s₁.heap.get? b = some o → o.data = .dict es ep → H b = none := fun b o es ep e d => Classical.byContradiction fun z => by
    obtain ⟨y, _⟩ := hA b z
    rw [y, ea] at e
    cases e
    cases d
  have cut : ∀ {b : Addr} {m : Str → Option Value}, s₁.heap.Ns b m → (hidT s₁.heap H).Ns b m := fun q => by
    obtain ⟨o, es, ep, e, d, r⟩ := q
    exact ⟨o, es, ep, hidT_get e (nD _ _ _ _ e d), d, r⟩
  have kb : K.In (hidT s₁.heap H) := fun b o e => hidT_get (KX b o e) (nK b o e)
  obtain ⟨mc, l1, l2⟩ := nl
  have md : Mod K mg (hidT s₁.heap H) := ⟨kb, cut gl, ⟨mb, cut bu, bb⟩, ⟨mc, cut l1, l2⟩⟩
  refine codeAny_mono (R _ kb (cut gl) ⟨rfl, md, fun b o e => of_hidT e, Nat.le_of_eq (hidT_size _ _), trivial, fun b m => absurd m (by simp [frs]), hok, .of_eq gn⟩) fun r s' h => top_end hO hok h
/-- the script that the law is given, frozen -/
def scrH (a : Addr) (vs : List Value) (ns : List Int) : Hp := fun b => if b = a then some (.frz { cls := .type "list", data := .seq vs.toArray } (.lst (ns.map V.int))) else none
theorem scrH_at {b : Addr} {u : HO} (h : scrH a vs ns b = some u) : b = a ∧ u = .frz { cls := .type "list", data := .seq vs.toArray } (.lst (ns.map V.int)) := by
  unfold scrH at h
  split at h
  · rename_i e
    cases h
    exact ⟨e, rfl⟩
  · cases h
theorem top_law (KX : K.In s₁.heap) (gl : s₁.heap.Ns mainGlobals mg) (bu : s₁.heap.Ns builtinsNs mb) (bb : ∀ x : Str, x ≠ "__name__" → mb x = bootBuiltins x) (nl : s₁.heap.NoLimit) (gn : s₁.gens = #[])
    (ea : s₁.heap.get? a = some { cls := .type "list", data := .seq vs.toArray }) (hi : PyProof.Rows.IntsAre vs ns) (hl : ns.length ≤ sizeLine)
    (R : ∀ base H, K.In base → base.Ns mainGlobals mg → SqL K H a (ns.map V.int) → AtTop P w K mg fa a s₁ base H) : codeAny (model P w) callerA (.call (.ref fa) ⟨[.ref a], []⟩) (TopEnd s₁) s₁ := by
  have rv := vals_ints hi
  have lv : vs.toArray.size ≤ sizeLine := by
    rw [List.size_toArray, hi.length]
    exact hl
  cases hk : K.lookup a with
  | some o =>
    have e := KX a o hk
    rw [ea] at e
    cases e
    have hs : SqL K (fun _ => none) a (ns.map V.int) := .inr ⟨_, vs.toArray, _, hk, rfl, rfl, rfl, lv, by rw [List.toList_toArray]; exact rv⟩
    exact top_core KX gl bu bb nl gn ea (H := fun _ => none) (fun b => .inl rfl) (fun b u z => nomatch z) (fun b z => absurd rfl z) fun base q1 q2 => R base _ q1 q2 hs
  | none =>
    have hs : SqL K (scrH a vs ns) a (ns.map V.int) := .inl (.inr ⟨_, if_pos rfl⟩)
    refine top_core KX gl bu bb nl gn ea (H := scrH a vs ns) (fun b => ?_) (fun b u z => ?_) (fun b z => ?_) fun base q1 q2 => R base _ q1 q2 hs
    · cases q : scrH a vs ns b with
      | none => exact .inl rfl
      | some u => exact .inr ⟨_, _, congrArg some (scrH_at q).2⟩
    · obtain ⟨e1, e2⟩ := scrH_at z
      subst e1 e2
      exact ⟨ea, by rw [List.length_map]; exact hl, vs, _, rv, ea⟩
    · cases q : scrH a vs ns b with
      | none => exact absurd q z
      | some u => exact ⟨(scrH_at q).1, hk⟩
end
theorem guards_top (env : Env) : (callerA.deeper env).guards = some [] := rfl
/-! ### repr of data: lists, tuples, texts, numbers, nested -/
def rRepr (K : Frg) : List V → Hp → VK → Prop := fun vs H Q => ∃ (a : Addr) (d : PyData), vs = [V.ref a] ∧ Dp K H (.ref a) d ∧ d.showable = true ∧ d.hasDict = false ∧ d.depth ≤ 190 ∧ d.shown.length ≤ sizeLine ∧ Q (.str d.shown) H
theorem cr_repr {X : Cx} {k : Nat} (hr : Room k X.A) (hg : X.A.guards = some []) : CallR X (.builtin "repr") (rRepr X.K) := by
  intro pins s σ H vs us Q I r h
  obtain ⟨a, d, rfl, hd, sh, nd, dp, sz, q⟩ := h
  obtain ⟨u, rfl, ru⟩ := vals1 r
  obtain rfl : u = Value.ref a := ru
  obtain ⟨as, rd⟩ := Dp.reads I d _ _ hd rfl
  have := hr.un
  refine repr_of_reads' rd sh (PyData.noDict_hsm nd) hg (by omega) (fun b o e => e) (fun h' u tk hk => ?_) sz
  exact ⟨.str d.shown, H, I.kept fun b o e => hk b o e, ⟨_, rfl⟩, q⟩

/-! ### repr of data with numbers of any length that the world allows -/
section
open PyProof.Rows
mutual
/-- no number beyond 4300 digits, no dict -/
def shB : PyData → Bool
  | .int i => decide (i.natAbs < 10 ^ 4300)
  | .list xs => shBs xs
  | .tuple xs => shBs xs
  | .dict _ => false
  | _ => true
def shBs : List PyData → Bool
  | [] => true
  | x :: xs => shB x && shBs xs
end
section
variable {prog : Program} {w : World} {h₀ : Heap}
theorem rk_int (nd : h₀.NoDigits) {i : Int} (t : Tok) (hi : i.natAbs < 10 ^ 4300) (as : List Addr) (n : Nat) : ReprK prog w as h₀ n (.int i t) (toString i) := by
  intro b0 hb A g E s Q hg hcl hu hk hQ
  rw [pyReprUnder_leaf (v := .int i t) (by omega) (fun _ e => nomatch e)]
  unfold pyRepr
  refine wpAny_bind (wpAny_pyReprObj_slot (by omega) (typeIs_int s i t) F.slot_int_repr.toG ?_)
  refine wpAny_call_entry F.slot_int_repr (typeIs_int s i t) F.entry_int_repr ?_ (F.args_int_repr_1 _)
  unfold Builtin.«int.__repr__»
  show wpAny _ _ (do let r ← Builtin.overDigitLimit? i; _) _ _ s
  refine wpAny_bind (overDigitLimit_any (nd.keeps hk) (fun hlt => ?_) (fun hge => absurd hi (Nat.not_lt.mpr hge)))
  exact wpAny_bind (wpAny_mkStr (wpAny_pure ⟨_, rfl, _, _, rfl, wpAny_pure (hQ s.heap _ fun _ _ e => e)⟩) (int_text_fits10 hlt))
mutual
theorem rk_of (nd : h₀.NoDigits) : ∀ {v : Value} {d : PyData} {as : List Addr}, Reads h₀ v d as → shB d = true → d.shown.length ≤ sizeLine → ∃ bs, ReadAtMost h₀ d.depth bs ∧ ReprK prog w bs h₀ d.depth v d.shown
  | _, _, _, .none, _, _ => ⟨[], (fun _ h => nomatch h), by rw [PyData.shown]; exact .of_is ReprIs.none _ _ _⟩
  | _, _, _, .bool b, _, _ => ⟨[], (fun _ h => nomatch h), by rw [PyData.shown]; exact .of_is (ReprIs.bool b) _ _ _⟩
  | _, _, _, .int i t, hs, _ => ⟨[], (fun _ h => nomatch h), by rw [PyData.shown]; exact rk_int nd t (of_decide_eq_true hs) _ _⟩
  | _, _, _, .str x t, _, hz => ⟨[], (fun _ h => nomatch h), by rw [PyData.shown] at hz ⊢; exact .of_is (ReprIs.str x t hz) _ _ _⟩
  | _, _, _, .list (a := a) (vs := vs) (xs := xs) h1 h2 h3 h4, hs, hz => by
    rw [PyData.shown] at hz
    obtain ⟨bs, hb, hk⟩ := rks_of nd h4 (show shBs xs = true from hs) fun t ht => Nat.le_trans (listText_mem_le ht) hz
    have r : Reads h₀ (.ref a) (.list xs) _ := .list h1 h2 h3 h4
    have hd : PyData.depthAll xs < (PyData.list xs).depth := by rw [PyData.depth]; omega
    refine ⟨a :: bs, ReadAtMost.cons r (Nat.le_of_lt hd) hb, ?_⟩
    have ed : (PyData.list xs).depth = PyData.depthAll xs + 1 := by rw [PyData.depth]
    rw [ed, PyData.shown]
    obtain ⟨l⟩ := vs
    cases l with
    | nil =>
      have h5 : ReadsAll h₀ [] xs _ := h4
      cases h5
      rw [PyData.shownAll, listText_nil]
      exact ReprK.listEmpty h1 h2 h3
    | cons x l => exact ReprK.list h1 h2 h3 (not_mem_of_deeper r hd hb) (by simpa using hk.length_eq) fun i y e => hk.item i y (by simpa using e)
  | _, _, _, .tuple (a := a) (xs := xs) h1 h2 h3 h4, hs, hz => by
    rw [PyData.shown] at hz
    obtain ⟨bs, hb, hk⟩ := rks_of nd h4 (show shBs xs = true from hs) fun t ht => Nat.le_trans (tupleText_mem_le ht) hz
    have r : Reads h₀ (.ref a) (.tuple xs) _ := .tuple h1 h2 h3 h4
    have hd : PyData.depthAll xs < (PyData.tuple xs).depth := by rw [PyData.depth]; omega
    refine ⟨a :: bs, ReadAtMost.cons r (Nat.le_of_lt hd) hb, ?_⟩
    have ed : (PyData.tuple xs).depth = PyData.depthAll xs + 1 := by rw [PyData.depth]
    rw [ed, PyData.shown]
    exact ReprK.tuple h1 h2 h3 (not_mem_of_deeper r hd hb) hk
  | _, _, _, .dict _ _ _ _ _, hs, _ => nomatch (show false = true from hs)
theorem rks_of (nd : h₀.NoDigits) : ∀ {vs : List Value} {ds : List PyData} {as : List Addr}, ReadsAll h₀ vs ds as → shBs ds = true → (∀ t ∈ PyData.shownAll ds, t.length ≤ sizeLine) →
    ∃ bs, ReadAtMost h₀ (PyData.depthAll ds) bs ∧ ReprAllK prog w bs h₀ (PyData.depthAll ds) vs (PyData.shownAll ds)
  | _, _, _, .nil, _, _ => ⟨[], (fun _ h => nomatch h), by rw [PyData.shownAll]; exact .nil⟩
  | _, _, _, .cons (d := d) (ds := ds) r rs, hs, hz => by
    have hs2 : shB d = true ∧ shBs ds = true := by
      have : (shB d && shBs ds) = true := hs
      exact Bool.and_eq_true_iff.mp this
    rw [PyData.shownAll] at hz
    obtain ⟨b1, hb1, k1⟩ := rk_of nd r hs2.1 (hz _ (List.mem_cons_self ..))
    obtain ⟨b2, hb2, k2⟩ := rks_of nd rs hs2.2 fun t ht => hz t (List.mem_cons_of_mem _ ht)
    have em : PyData.depthAll (d :: ds) = max d.depth (PyData.depthAll ds) := by rw [PyData.depthAll]
    rw [em, PyData.shownAll]
    exact ⟨b1 ++ b2, (hb1.mono (Nat.le_max_left _ _)).append (hb2.mono (Nat.le_max_right _ _)),
      .cons ((k1.more fun b hb => List.mem_append_left _ hb).level_le (Nat.le_max_left _ _)) (k2.more_le (fun b hb => List.mem_append_right _ hb) (Nat.le_max_right _ _))⟩
end
theorem repr_big {A : Around} {E : Value → Shared → Prop} {s : Shared} {Q : Value → Shared → Prop} {a : Addr} {d : PyData} {as : List Addr} (nd : s.heap.NoDigits) (r : Reads s.heap (.ref a) d as) (hs : shB d = true) (hg : A.guards = some []) (hu : A.units + (d.depth + 1) < cLine)
    (hQ : ∀ h' u tk, (∀ b o, s.heap.get? b = some o → h'.get? b = some o) → Q (.str d.shown u) { s with heap := h', toks := tk }) (hz : d.shown.length ≤ sizeLine) : wpAny (model prog w) A (call (.builtin "repr") [.ref a]) Q E s := by
  cases r with
  | @list _ o vs n xs bs₀ h1 h2 h3 h4 =>
    rw [PyData.shown] at hz
    obtain ⟨bs, hb, hk⟩ := rks_of (prog := prog) (w := w) nd h4 (show shBs xs = true from hs) fun t ht => Nat.le_trans (listText_mem_le ht) hz
    have hd : PyData.depthAll xs < (PyData.list xs).depth := by rw [PyData.depth]; omega
    have hna : a ∉ bs := not_mem_of_deeper (.list h1 h2 h3 h4) hd hb
    have ed : (PyData.list xs).depth = PyData.depthAll xs + 1 := by rw [PyData.depth]
    rw [ed] at hu
    rw [PyData.shown] at hQ
    refine call_repr_slot (by omega) (⟨o, h1, h2⟩ : s.TypeIs (.ref a) "list") F.slot_list_repr.toG ?_
    obtain ⟨l⟩ := vs
    cases l with
    | nil =>
      have h5 : ReadsAll s.heap [] xs _ := h4
      cases h5
      rw [PyData.shownAll, listText_nil] at hQ
      exact call_list_repr_empty ⟨o, h1, h2⟩ h1 h3 ⟨_, _, rfl, hQ s.heap _ _ fun _ _ e => e⟩
    | cons x l => exact call_list_reprK h1 h2 h3 hna (by simpa using hk.length_eq) (fun i y e => hk.item i y (by simpa using e)) hg (fun b _ => Clear.nil b) (by show A.units + 1 + _ < cLine; omega) (fun b o e => e) (fun h' u tk hk => ⟨_, _, rfl, hQ h' u tk hk⟩) hz
  | @tuple _ o vs n xs as₀ h1 h2 h3 h4 =>
    rw [PyData.shown] at hz
    obtain ⟨bs, hb, hk⟩ := rks_of (prog := prog) (w := w) nd h4 (show shBs xs = true from hs) fun t ht => Nat.le_trans (tupleText_mem_le ht) hz
    have hd : PyData.depthAll xs < (PyData.tuple xs).depth := by rw [PyData.depth]; omega
    have hna : a ∉ bs := not_mem_of_deeper (.tuple h1 h2 h3 h4) hd hb
    have ed : (PyData.tuple xs).depth = PyData.depthAll xs + 1 := by rw [PyData.depth]
    rw [ed] at hu
    rw [PyData.shown] at hQ
    refine call_repr_slot (by omega) (⟨o, h1, h2⟩ : s.TypeIs (.ref a) "tuple") F.slot_tuple_repr ?_
    exact call_tuple_reprK h1 h2 h3 hna hk hg (fun b _ => Clear.nil b) (by show A.units + 1 + _ < cLine; omega) (fun b o e => e) (fun h' u tk hk => ⟨_, _, rfl, hQ h' u tk hk⟩) hz
  | dict h1 h2 h3 h4 h5 => exact nomatch (show false = true from hs)
end
def rReprB (K : Frg) : List V → Hp → VK → Prop := fun vs H Q => ∃ (a : Addr) (d : PyData), vs = [V.ref a] ∧ Dp K H (.ref a) d ∧ shB d = true ∧ d.depth ≤ 190 ∧ d.shown.length ≤ sizeLine ∧ Q (.str d.shown) H
theorem cr_reprB {X : Cx} {k : Nat} (hr : Room k X.A) (hg : X.A.guards = some []) (dg : DigK X.K) : CallR X (.builtin "repr") (rReprB X.K) := by
  intro pins s σ H vs us Q I r h
  obtain ⟨a, d, rfl, hd, sh, dp, sz, q⟩ := h
  obtain ⟨u, rfl, ru⟩ := vals1 r
  obtain rfl : u = Value.ref a := ru
  obtain ⟨as, rd⟩ := Dp.reads I d _ _ hd rfl
  have := hr.un
  have nd : s.heap.NoDigits := ⟨_, Heap.Ns.of_isNs (PySem.W.isNs_of_in I.kIn dg.1), PySem.W.ns_none_of I.kIn (Heap.Ns.of_isNs (PySem.W.isNs_of_in I.kIn dg.1)) dg.2⟩
  refine repr_big nd rd sh hg (by omega) (fun h' u tk hk => ?_) sz
  exact ⟨.str d.shown, H, I.kept fun b o e => hk b o e, ⟨_, rfl⟩, q⟩
end

/-! ### the law's body at the caller of claims; the end -/
theorem top_run {P : Program} {w : World} {K : Frg} {mg : Str → Option Value} {base : Heap} {s₁ : Shared} {a fa : Addr} {H : Hp} {fd : FuncData} {x qual p : Str} {params : Arguments} {body : List Stmt} {scope : Scope} {dvs : List V} {kws : List (Str × V)} {N : List Str} {k : Nat} {sp : Sp}
    (F : FunD K x qual params body scope dvs kws fa fd) (S : FnScope N [p] scope) (bind : ∀ (s : Shared) (u : Value), BindsTo s fd ⟨[u], []⟩ [(p, u)]) (hr : Room (k + 1) callerA)
    (B : ∀ (cdv : Value) (outer : List Env) (s : Shared) (H : Hp) (vs : List V) (Q : VK) (E : XK), Room k (callerA.deeper (envOfC qual scope s.heap.objs.size fa cdv)) → sp vs H Q E →
      ∃ t, PSs (cxOf CX0 P w K mg base N qual scope fa cdv callerA outer s H E).nox body t ∧ t { nx := fun _ H' => Q .non H', rt := Q } (L2.start N vs) H)
    (h : sp [.ref a] H (fun v _ => v = V.bl true) fun _ _ _ => False) : AtTop P w K mg fa a s₁ base H := fun e0 => by
  obtain ⟨_, _, _, _, _, _, _, cdv, _, _, rfl, lk, hcd, _, _⟩ := F.ex
  have rv : Vals [V.ref a] [Value.ref a] := .cons rfl .nil
  exact LamX.run_ofS (us := [Value.ref a]) (vs := [V.ref a]) lk hcd S hr e0 (bind s₁ (.ref a)) rv rfl fun r => by
    obtain ⟨t, h1, h2⟩ := B cdv [] s₁ H _ _ _ r h
    exact ⟨t, h1.nox, h2⟩
theorem walk_top {l : PySem.W.OpenLaw} {n : Nat} {q : Program} {loose : List Str} {XP : (Str → Option Value) → Heap → Prop} {YP : World → Heap → Prop} {d : DefRec} (hn : l.most = some n) (hn2 : n ≤ sizeLine) (hdf : d.params.defaults = [])
    (F : ∀ (w : World) (mg : Str → Option Value) (fa : Addr) (h : Heap), YP w h → h.Ns mainGlobals mg → mg d.name = some (.ref fa) →
      ∃ K : Frg, K.In h ∧ ∀ (s₁ : Shared) (base : Heap) (H : Hp) (a : Addr) (ns : List Int), ns.length ≤ n → K.In base → base.Ns mainGlobals mg → SqL K H a (ns.map V.int) → AtTop l.prog w K mg fa a s₁ base H) :
    PySem.W.WalkO q loose XP YP l.row.toRowW d [] (fun f vs => PySem.call f vs) := by
  refine Att.attach_call hn hdf fun w _ s1 mg mb fa _ _ _ _ a vs ns G Y _ _ _ em eo ei le eg => ?_
  obtain ⟨K, KX, R⟩ := F w mg fa _ Y G.T.g em
  exact top_law KX G.T.g G.T.b G.T.builtins G.T.nolimit eg eo ei (Nat.le_trans le hn2) fun base H q1 q2 q3 => R s1 base H a ns le q1 q2 q3

/-! ### the law's def at the caller of claims, tables of lambdas beside it -/
section
variable {P : Program} {w : World} {K : Frg} {mg mb : Str → Option Value} {s₁ : Shared} {a fa : Addr} {vs : List Value} {ns : List Int} {H : Hp} {cs : List (Addr × Addr)}
def emT : Obj := { cls := .none, data := .fields #[] }
/-- what is written down when the law begins: the script, if the module doesn't hold it, and the tables -/
structure Beg (K : Frg) (cs : List (Addr × Addr)) (a : Addr) (H : Hp) : Prop where
  tab : ∀ p ∈ cs, H p.2 = some (.tbl #[])
  all : ∀ b u, H b = some u → (b = a ∧ K.lookup a = none ∧ ∃ o xs, u = .frz o (.lst xs)) ∨ ∃ p ∈ cs, b = p.2 ∧ u = .tbl #[]
/-- the tables at the head's end -/
structure TabsH (K : Frg) (cs : List (Addr × Addr)) (h : Heap) : Prop where
  em : ∀ p ∈ cs, h.get? p.2 = some emT
  out : ∀ p ∈ cs, K.lookup p.2 = none
  code : ∀ p ∈ cs, PySem.W.CodeHd h p.1 p.2
theorem top_endT {r : Result} {s' : Shared} (B : Beg K cs a H) (T : TabsH K cs s₁.heap) (hok : HOk P w H s₁.heap) (h : CR CX0 [] P w H s₁ (fun v _ => v = V.bl true) (fun _ _ _ => False) r s') : TopEnd s₁ r s' := by
  match r, h with
  | .error e, h => exact h.elim
  | .ok .next, h => exact h.elim
  | .ok .brk, h => exact h.elim
  | .ok .cont, h => exact h.elim
  | .ok (.ret u), h =>
    obtain ⟨v, H2, os, bare, un, hok2, ru, e⟩ := h
    have e : v = V.bl true := e
    subst e
    have ru : u = Value.bool true := ru
    subst ru
    have far : ∀ b o, s₁.heap.get? b = some o → (s'.heap.get? b = some o) ∨ ∃ p ∈ cs, b = p.2 ∧ ∃ more : Array Value, s'.heap.get? b = some { cls := .none, data := .fields more } := fun b o eb => by
      cases z : H b with
      | none => exact .inl (un.keep b o eb z (fun m => absurd m (by simp [frs])) (by simp))
      | some u =>
        rcases B.all b u z with ⟨_, _, ob, xs, rfl⟩ | ⟨p, hp, eq, rfl⟩
        · have k1 := (hok b _ z).1
          have k2 := (hok2 b _ (un.frzs b ob _ z)).1
          rw [k1] at eb
          cases eb
          exact .inl k2
        · obtain ⟨more, y⟩ := un.tbls b #[] z
          exact .inr ⟨p, hp, eq, _, hok2 b _ y⟩
    refine ⟨rfl, ⟨fun b o eb => ?_, fun b o eb => ?_⟩, os, bare⟩
    · rcases far b o eb with z | ⟨p, hp, rfl, more, z⟩
      · exact .inl z
      · have em := T.em p hp
        rw [em] at eb
        cases eb
        exact .inr (.inl ⟨((T.code p hp).tab em).isCodeTable, rfl, #[], more, rfl, by rw [z, Array.empty_append]; rfl⟩)
    · rcases far b o eb with z | ⟨p, hp, rfl, more, z⟩
      · exact ⟨o, z⟩
      · exact ⟨_, z⟩
theorem top_coreT (KX : K.In s₁.heap) (gl : s₁.heap.Ns mainGlobals mg) (bu : s₁.heap.Ns builtinsNs mb) (bb : ∀ x : Str, x ≠ "__name__" → mb x = bootBuiltins x) (nl : s₁.heap.NoLimit) (gn : s₁.gens = #[])
    (bmod : ∃ (bm : Addr) (ob : Obj), mg "__builtins__" = some (.ref bm) ∧ bm ≠ builtinsNs ∧ s₁.heap.get? bm = some ob ∧ ob.cls = .type "module" ∧ ob.dict = some builtinsNs ∧ ob.data = .plain)
    (ea : s₁.heap.get? a = some { cls := .type "list", data := .seq vs.toArray }) (B : Beg K cs a H) (T : TabsH K cs s₁.heap) (hok : HOk P w H s₁.heap)
    (R : ∀ base, K.In base → base.Ns mainGlobals mg → (∀ p ∈ cs, LamX.TabB base mg p.1 p.2) → AtTop P w K mg fa a s₁ base H) : codeAny (model P w) callerA (.call (.ref fa) ⟨[.ref a], []⟩) (TopEnd s₁) s₁ := by
  have low : ∀ {b : Addr} {o : Obj}, s₁.heap.get? b = some o → (∀ xs n, o.data ≠ .seq xs n) → o.data ≠ .fields #[] → (hidT s₁.heap H).get? b = some o := fun {b o} e h1 h2 => hidT_get e (by
    cases z : H b with
    | none => rfl
    | some u =>
      rcases B.all b u z with ⟨y, _⟩ | ⟨p, hp, y, _⟩
      · rw [y, ea] at e
        cases e
        exact (h1 _ _ rfl).elim
      · rw [y, T.em p hp] at e
        cases e
        exact (h2 rfl).elim)
  have cut : ∀ {b : Addr} {m : Str → Option Value}, s₁.heap.Ns b m → (hidT s₁.heap H).Ns b m := fun q => by
    obtain ⟨o, es, ep, e, d, r⟩ := q
    exact ⟨o, es, ep, low e (by rw [d]; exact fun _ _ z => nomatch z) (by rw [d]; exact fun z => nomatch z), d, r⟩
  have kb : K.In (hidT s₁.heap H) := fun b o e => hidT_get (KX b o e) (by
    cases z : H b with
    | none => rfl
    | some u =>
      rcases B.all b u z with ⟨y, k, _⟩ | ⟨p, hp, y, _⟩
      · rw [y, k] at e
        cases e
      · rw [y, T.out p hp] at e
        cases e)
  have tb : ∀ p ∈ cs, LamX.TabB (hidT s₁.heap H) mg p.1 p.2 := fun p hp => by
    have em := T.em p hp
    refine ⟨?_, ?_, fun z => ?_⟩
    · obtain ⟨o, us, x1, x2, x3, x4, x5, x6, x7, e1, c1, c2, c3, more⟩ := T.code p hp
      exact ⟨o, us, x1, x2, x3, x4, x5, x6, x7, low e1 (by rw [c2]; exact fun _ _ z => nomatch z) (by rw [c2]; intro z; cases z; simp at c3), c1, c2, c3, more⟩
    · obtain ⟨bm, ob, b1, b2, b3, b4, b5, b6⟩ := bmod
      refine ⟨bm, ob, b1, b2, fun z => ?_, fun z => ?_, low b3 (by rw [b6]; exact fun _ _ z => nomatch z) (by rw [b6]; exact fun z => nomatch z), b4, b5, b6⟩
      · obtain ⟨o, es, ep, e, d, _⟩ := gl
        rw [z, e] at b3
        cases b3
        rw [d] at b6
        cases b6
      · rw [z, em] at b3
        cases b3
        cases b6
    · obtain ⟨o, es, ep, e, d, _⟩ := gl
      rw [z, em] at e
      cases e
      cases d
  obtain ⟨mc, l1, l2⟩ := nl
  have md : Mod K mg (hidT s₁.heap H) := ⟨kb, cut gl, ⟨mb, cut bu, bb⟩, ⟨mc, cut l1, l2⟩⟩
  exact codeAny_mono (R _ kb (cut gl) tb ⟨rfl, md, fun b o e => of_hidT e, Nat.le_of_eq (hidT_size _ _), trivial, fun b m => absurd m (by simp [frs]), hok, .of_eq gn⟩) fun r s' h => top_endT B T hok h
/-- the tables beside what is there already -/
def addT (cs : List (Addr × Addr)) (H : Hp) : Hp := fun b => if b ∈ cs.map (·.2) then some (.tbl #[]) else H b
theorem addT_in {p : Addr × Addr} (hp : p ∈ cs) : addT cs H p.2 = some (.tbl #[]) := if_pos (List.mem_map.mpr ⟨p, hp, rfl⟩)
theorem addT_out {b : Addr} (h : b ∉ cs.map (·.2)) : addT cs H b = H b := if_neg h
theorem addT_at {b : Addr} {u : HO} (h : addT cs H b = some u) : (∃ p ∈ cs, b = p.2 ∧ u = .tbl #[]) ∨ H b = some u := by
  unfold addT at h
  split at h
  · rename_i m
    obtain ⟨p, hp, e⟩ := List.mem_map.mp m
    cases h
    exact .inl ⟨p, hp, e.symm, rfl⟩
  · exact .inr h
theorem top_lawT (KX : K.In s₁.heap) (gl : s₁.heap.Ns mainGlobals mg) (bu : s₁.heap.Ns builtinsNs mb) (bb : ∀ x : Str, x ≠ "__name__" → mb x = bootBuiltins x) (nl : s₁.heap.NoLimit) (gn : s₁.gens = #[])
    (bmod : ∃ (bm : Addr) (ob : Obj), mg "__builtins__" = some (.ref bm) ∧ bm ≠ builtinsNs ∧ s₁.heap.get? bm = some ob ∧ ob.cls = .type "module" ∧ ob.dict = some builtinsNs ∧ ob.data = .plain)
    (ea : s₁.heap.get? a = some { cls := .type "list", data := .seq vs.toArray }) (hi : PyProof.Rows.IntsAre vs ns) (hl : ns.length ≤ sizeLine) (T : TabsH K cs s₁.heap)
    (R : ∀ base H, K.In base → base.Ns mainGlobals mg → (∀ p ∈ cs, LamX.TabB base mg p.1 p.2) → (∀ p ∈ cs, H p.2 = some (.tbl #[])) → SqL K H a (ns.map V.int) → AtTop P w K mg fa a s₁ base H) : codeAny (model P w) callerA (.call (.ref fa) ⟨[.ref a], []⟩) (TopEnd s₁) s₁ := by
  have rv := vals_ints hi
  have lv : vs.toArray.size ≤ sizeLine := by
    rw [List.size_toArray, hi.length]
    exact hl
  have aT : a ∉ cs.map (·.2) := fun z => by
    obtain ⟨p, hp, e⟩ := List.mem_map.mp z
    have q := T.em p hp
    rw [e, ea] at q
    cases (show Data.seq vs.toArray _ = Data.fields #[] from congrArg Obj.data (Option.some.inj q))
  cases hk : K.lookup a with
  | some o =>
    have e := KX a o hk
    rw [ea] at e
    cases e
    have hs : SqL K (addT cs fun _ => none) a (ns.map V.int) := .inr ⟨_, vs.toArray, _, hk, rfl, rfl, rfl, lv, by rw [List.toList_toArray]; exact rv⟩
    refine top_coreT KX gl bu bb nl gn bmod ea (H := addT cs fun _ => none) ⟨fun p hp => addT_in hp, fun b u z => ?_⟩ T (fun b u z => ?_) fun base q1 q2 q3 => R base _ q1 q2 q3 (fun p hp => addT_in hp) hs
    · rcases addT_at z with y | y
      · exact .inr y
      · cases y
    · rcases addT_at z with ⟨p, hp, rfl, rfl⟩ | y
      · exact T.em p hp
      · cases y
  | none =>
    have hs : SqL K (addT cs (scrH a vs ns)) a (ns.map V.int) := .inl (.inr ⟨_, (addT_out aT).trans (if_pos rfl)⟩)
    refine top_coreT KX gl bu bb nl gn bmod ea (H := addT cs (scrH a vs ns)) ⟨fun p hp => addT_in hp, fun b u z => ?_⟩ T (fun b u z => ?_) fun base q1 q2 q3 => R base _ q1 q2 q3 (fun p hp => addT_in hp) hs
    · rcases addT_at z with y | y
      · exact .inr y
      · obtain ⟨e1, e2⟩ := scrH_at y
        exact .inl ⟨e1, hk, _, _, e2⟩
    · rcases addT_at z with ⟨p, hp, rfl, rfl⟩ | y
      · exact T.em p hp
      · obtain ⟨e1, e2⟩ := scrH_at y
        subst e1 e2
        exact ⟨ea, by rw [List.length_map]; exact hl, vs, _, rv, ea⟩
end
theorem walk_topT {l : PySem.W.OpenLaw} {n : Nat} {q : Program} {loose : List Str} {XP : (Str → Option Value) → Heap → Prop} {YP : World → Heap → Prop} {d : DefRec} (hn : l.most = some n) (hn2 : n ≤ sizeLine) (hdf : d.params.defaults = [])
    (F : ∀ (w : World) (mg : Str → Option Value) (fa : Addr) (h : Heap), YP w h → h.Ns mainGlobals mg → mg d.name = some (.ref fa) →
      ∃ (K : Frg) (cs : List (Addr × Addr)), K.In h ∧ TabsH K cs h ∧ ∀ (s₁ : Shared) (base : Heap) (H : Hp) (a : Addr) (ns : List Int), ns.length ≤ n → K.In base → base.Ns mainGlobals mg → (∀ p ∈ cs, LamX.TabB base mg p.1 p.2) → (∀ p ∈ cs, H p.2 = some (.tbl #[])) → SqL K H a (ns.map V.int) → AtTop l.prog w K mg fa a s₁ base H) :
    PySem.W.WalkO q loose XP YP l.row.toRowW d [] (fun f vs => PySem.call f vs) := by
  refine Att.attach_call hn hdf fun w _ s1 mg mb fa _ _ _ _ a vs ns G Y _ _ _ em eo ei le eg => ?_
  obtain ⟨K, cs, KX, T, R⟩ := F w mg fa _ Y G.T.g em
  exact top_lawT KX G.T.g G.T.b G.T.builtins G.T.nolimit eg G.T.bmain eo ei (Nat.le_trans le hn2) T fun base H q1 q2 q3 q4 q5 => R s1 base H a ns le q1 q2 q3 q4 q5
theorem tabsH_of {K : Frg} {qs : List Str} {h : Heap} (KX : K.In h) (l : LamsAt qs h K) : TabsH K (csOf K qs) h := by
  refine ⟨fun p hp => ?_, fun p hp => ?_, fun p hp => ?_⟩ <;> obtain ⟨q, hq, rfl⟩ := List.mem_map.mp hp
  · exact l.empty q hq
  · exact l.out q hq
  · exact PySem.W.codeHd_of_K KX (l.hd q hq)

/-! ### what is shown is not too long -/
theorem shown_int {i : Int} {k : Nat} (hk : 0 < k) (h : i.natAbs < 10 ^ k) : (PyData.shown (.int i)).length ≤ k + 1 := by
  rw [PyData.shown, ofString_length]
  exact int_text_length_le10 hk h
/-- the sum of what is shown -/
def shS (ds : List PyData) : Nat := ((PyData.shownAll ds).map (·.length)).sum
theorem shS_cons (d : PyData) (ds : List PyData) : shS (d :: ds) = d.shown.length + shS ds := by
  unfold shS
  rw [PyData.shownAll, List.map_cons, List.sum_cons]
theorem shA_len : ∀ ds : List PyData, (PyData.shownAll ds).length = ds.length
  | [] => by rw [PyData.shownAll]; rfl
  | d :: ds => by rw [PyData.shownAll, List.length_cons, List.length_cons, shA_len ds]
theorem tup_len (ds : List PyData) : (PyData.tuple ds).shown.length ≤ shS ds + 2 * ds.length + 3 := by
  have h := tupleText_len_le (PyData.shownAll ds)
  rw [shA_len] at h
  rw [PyData.shown]
  exact h
theorem shS_nil : shS [] = 0 := by
  unfold shS
  rw [PyData.shownAll]
  rfl
theorem shS_ints : ∀ (ns : List Int), (∀ n ∈ ns, n.natAbs < 10 ^ 15) → shS (ns.map PyData.int) ≤ 16 * ns.length
  | [], _ => Nat.le_of_eq shS_nil
  | n :: ns, h => by
    have h1 := shown_int (k := 15) (by decide) (h n (List.mem_cons_self ..))
    have h2 := shS_ints ns fun x hx => h x (List.mem_cons_of_mem _ hx)
    rw [List.map_cons, shS_cons, List.length_cons]
    omega
theorem sh_ints : ∀ (ns : List Int), (∀ n ∈ ns, n.natAbs < 10 ^ 4300) → shBs (ns.map PyData.int) = true
  | [], _ => rfl
  | n :: ns, h => by
    show (shB (.int n) && shBs (ns.map PyData.int)) = true
    rw [sh_ints ns fun x hx => h x (List.mem_cons_of_mem _ hx), Bool.and_true]
    exact decide_eq_true (h n (List.mem_cons_self ..))
theorem lt_big {n k : Nat} (h : n < 10 ^ k) (hk : k ≤ 4300) : n < 10 ^ 4300 := Nat.lt_of_lt_of_le h (pow10_le hk)
theorem depthI (ns : List Int) : PyData.depthAll (ns.map PyData.int) = 0 := by
  induction ns with
  | nil => rw [List.map_nil, PyData.depthAll]
  | cons n ns ih => rw [List.map_cons, PyData.depthAll, ih, PyData.depth]; rfl
/-- data may be shown, not deep, not long -/
structure Shw (d : PyData) (k n : Nat) : Prop where
  sh : shB d = true
  dp : d.depth ≤ k
  ln : d.shown.length ≤ n
structure Shs (ds : List PyData) (k n m : Nat) : Prop where
  sh : shBs ds = true
  dp : PyData.depthAll ds ≤ k
  ln : shS ds ≤ n
  le : ds.length ≤ m
theorem Shs.nil {k : Nat} : Shs [] k 0 0 := ⟨rfl, by rw [PyData.depthAll]; exact Nat.zero_le _, Nat.le_of_eq shS_nil, Nat.le_refl _⟩
theorem Shs.cons {d : PyData} {ds : List PyData} {k n m j : Nat} (h : Shw d k n) (hs : Shs ds k m j) : Shs (d :: ds) k (n + m) (j + 1) := by
  refine ⟨?_, ?_, ?_, ?_⟩
  · show (shB d && shBs ds) = true
    rw [h.sh, hs.sh]
    rfl
  · rw [PyData.depthAll]
    exact Nat.max_le.mpr ⟨h.dp, hs.dp⟩
  · rw [shS_cons]
    exact Nat.add_le_add h.ln hs.ln
  · rw [List.length_cons]
    exact Nat.add_le_add_right hs.le 1
theorem Shs.tup {ds : List PyData} {k n m : Nat} (h : Shs ds k n m) : Shw (.tuple ds) (k + 1) (n + 2 * m + 3) := by
  refine ⟨h.sh, ?_, ?_⟩
  · rw [PyData.depth]
    have := h.dp
    omega
  · have h1 := tup_len ds
    have h2 := h.ln
    have h3 := h.le
    omega
theorem Shw.mono {d : PyData} {k n k2 n2 : Nat} (h : Shw d k n) (hk : k ≤ k2) (hn : n ≤ n2) : Shw d k2 n2 := ⟨h.sh, Nat.le_trans h.dp hk, Nat.le_trans h.ln hn⟩
theorem shw_str {x : Str} {k : Nat} (h : (PyData.shown (.str x)).length ≤ 40) : Shw (.str x) k 40 := ⟨rfl, by rw [PyData.depth]; exact Nat.zero_le _, h⟩
theorem shw_int {i : Int} {k j : Nat} (hj : 0 < j) (h4 : j ≤ 4300) (h : i.natAbs < 10 ^ j) : Shw (.int i) k (j + 1) := ⟨decide_eq_true (lt_big h h4), by rw [PyData.depth]; exact Nat.zero_le _, shown_int hj h⟩
theorem shw_kd {ns : List Int} (hn : ns.length ≤ 300) (h : ∀ n ∈ ns, n.natAbs < 10 ^ 15) : Shw (kd ns) 1 5500 := by
  have hs : Shs (ns.map PyData.int) 0 (16 * ns.length) ns.length := ⟨sh_ints ns fun n q => lt_big (h n q) (by decide), Nat.le_of_eq (depthI ns), shS_ints ns h, by rw [List.length_map]; exact Nat.le_refl _⟩
  exact hs.tup.mono (Nat.le_refl _) (by omega)
theorem low15 {n : Int} (h0 : 0 ≤ n) (h1 : n ≤ 1114111) : n.natAbs < 10 ^ 15 := by
  have : (10 : Nat) ^ 15 = 1000000000000000 := by decide
  omega

/-! ### repr of data and of numbers -/
def rReprI (K : Frg) : List V → Hp → VK → Prop := fun vs H Q => rReprB K vs H Q ∨ ∃ i : Int, vs = [.int i] ∧ i.natAbs.log2 < 1920 ∧ Q (.str (toString i)) H
theorem cr_reprI {X : Cx} {k : Nat} (hr : Room k X.A) (hg : X.A.guards = some []) (dg : DigK X.K) : CallR X (.builtin "repr") (rReprI X.K) := by
  intro pins s σ H vs us Q I r h
  rcases h with h | ⟨i, rfl, hi, q⟩
  · exact cr_reprB hr hg dg pins s σ H vs us Q I r h
  · obtain ⟨u, rfl, ru⟩ := vals1 r
    obtain ⟨t, rfl⟩ : ∃ t, u = Value.int i t := ru
    exact PySem.P.repr_of_int hi ⟨.str _, H, I.tok _, ⟨_, rfl⟩, q⟩
/-! ### the law -/

def sp_lawT (K : Frg) : Sp := sp1 fun a H Q _ => ∃ (sl : Addr) (ns : List Int), a = .ref sl ∧ SqL K H sl (ns.map V.int) ∧ LamX.Tabs (tbsOf K lamsL) H ∧ ∀ H', Q (.bl true) H'
theorem same_keep {S : SC} {H H1 H2 : Hp} (s : Same H H1) (k : Keep S H1 H2) (n : H S.a = none) : Same H H2 := fun b u h => k b u (fun z => by rw [z, n] at h; cases h) (s b u h)
def kinds5 : List Str := ["null", "truth", "number", "bytes", "text"]
theorem kinds5_ok : KsOk kinds5 := ⟨by decide, by decide, fun k hk => by
  simp only [kinds5, List.mem_cons, List.not_mem_nil, or_false] at hk
  rcases hk with e | e | e | e | e <;> rw [e] <;> simp⟩
theorem shown8 {o : Int} (h0 : 0 ≤ o) (h1 : o ≤ 255) : (PyData.shown (.int o)).length ≤ 3 := by
  obtain ⟨n, rfl⟩ : ∃ n : Nat, o = n := ⟨o.toNat, by omega⟩
  have h : ∀ n ∈ List.range 256, (PyData.shown (.int (n : Nat))).length ≤ 3 := by decide +kernel
  exact h n (List.mem_range.mpr (by omega))
theorem shS8 : ∀ {ns : List Int}, Oct8 ns → shS (ns.map PyData.int) ≤ 3 * ns.length
  | [], _ => Nat.le_of_eq shS_nil
  | n :: ns, h => by
    have h1 := shown8 (h n (List.mem_cons_self ..)).1 (h n (List.mem_cons_self ..)).2
    have h2 := shS8 (ns := ns) fun x hx => h x (List.mem_cons_of_mem _ hx)
    rw [List.map_cons, shS_cons, List.length_cons]
    omega
theorem list_len (ds : List PyData) : (PyData.list ds).shown.length ≤ shS ds + 2 * ds.length + 3 := by
  have h := listText_len_le (PyData.shownAll ds)
  rw [shA_len] at h
  rw [PyData.shown]
  exact h
theorem oct_shw {xs : List Int} (h : Oct8 xs) (hl : xs.length ≤ 3300000) : shB (.list (xs.map PyData.int)) = true ∧ (PyData.list (xs.map PyData.int)).depth ≤ 190 ∧ (PyData.list (xs.map PyData.int)).shown.length ≤ sizeLine := by
  refine ⟨sh_ints xs fun n hn => ?_, ?_, ?_⟩
  · have := h n hn
    exact Nat.lt_of_lt_of_le (show n.natAbs < 10 ^ 3 by omega) (pow10_le (by decide))
  · rw [PyData.depth, depthI]
    decide
  · have a := list_len (xs.map PyData.int)
    have b := shS8 h
    rw [List.length_map] at a
    exact Nat.le_trans a (show _ ≤ 16777216 by omega)
theorem lacks_shw {i : Nat} (h : i < 16777216) : shB (.tuple [.str "lacks", .int (i : Nat)]) = true ∧ (PyData.tuple [.str "lacks", .int (i : Nat)]).depth ≤ 190 ∧ (PyData.tuple [.str "lacks", .int (i : Nat)]).shown.length ≤ sizeLine := by
  have e1 : ((i : Nat) : Int).natAbs = i := Int.natAbs_natCast i
  refine ⟨?_, ?_, ?_⟩
  · show (true && (decide (((i : Nat) : Int).natAbs < 10 ^ 4300) && true)) = true
    rw [e1, decide_eq_true (Nat.lt_of_lt_of_le (show i < 10 ^ 8 by omega) (pow10_le (by decide)))]
    rfl
  · simp [PyData.depth, PyData.depthAll]
  · have a := tup_len [.str "lacks", .int (i : Nat)]
    have b := shown_int (i := ((i : Nat) : Int)) (k := 8) (by decide) (by rw [e1]; omega)
    have c : (PyData.shown (.str "lacks")).length ≤ 100 := by decide +kernel
    rw [shS_cons, shS_cons, shS_nil] at a
    exact Nat.le_trans a (show _ ≤ 16777216 by simp only [List.length_cons, List.length_nil]; omega)
theorem lacks_dp {K : Frg} {H : Hp} {T : Addr} {i : Nat} (h : H T = some (.tup [.str "lacks", .int (i : Nat)])) : Dp K H (.ref T) (.tuple [.str "lacks", .int (i : Nat)]) := .tup (SqT.of h) (.cons (.str _) (.cons (.int _) .nil))
theorem octs_dp {K : Frg} {H : Hp} {p : Addr} {xs : List Int} (h : H p = some (.lst (xs.map V.int))) : Dp K H (.ref p) (.list (xs.map PyData.int)) := .lst (SqL.of h) (dpa_ints _)
theorem log2_small {i : Nat} (h : i < 16777216) : ((i : Nat) : Int).natAbs.log2 < 1920 := by
  rw [Int.natAbs_natCast]
  by_cases c : i = 0
  · rw [c]
    decide +kernel
  · exact (Nat.log2_lt c).mpr (Nat.lt_trans h (Nat.lt_of_lt_of_le (by decide : 16777216 < 2 ^ 25) (Nat.pow_le_pow_right (by decide) (by decide))))
section
variable {P : Program} {w : World} {K : PySem.W.Frag} {mg : Str → Option Value} {base : Heap} {f : Addr} {fd : FuncData}
theorem ok_law (F : FunD K "law" "law" (defArgs s_law) (defBody s_law) (defScope s_law) [] [] (glAd "law" K) fd) (nb : Nm w K mg) (c_cbor_lacks : Cal P w K mg base 6 "cbor_lacks" (sp_cbor_lacks K) []) (c__law_cell : Cal P w K mg base 1 "_law_cell" (sp__law_cell K) []) (c__law_state : Cal P w K mg base 2 "_law_state" (sp__law_state K) []) (c__law_value : Cal P w K mg base 10 "_law_value" (sp__law_value K 5) []) (c__law_far : Cal P w K mg base 2 "_law_far" (sp__law_far K) []) (c__law_towered : Cal P w K mg base 2 "_law_towered" (sp__law_towered K) []) (c__law_walk : Cal P w K mg base 27 "_law_walk" (sp__law_walk K 26) []) (c__law_written : Cal P w K mg base 32 "_law_written" (sp__law_written K 26) []) (c__law_lacks : Cal P w K mg base 1 "_law_lacks" (sp__law_lacks K) []) (c__law_told : Cal P w K mg base 36 "_law_told" (sp__law_told K) []) {a : Addr} {s₁ : Shared} {H : Hp} (bind : ∀ (s : Shared) (u : Value), BindsTo s fd ⟨[u], []⟩ [("script", u)]) (hs : sp_lawT K [.ref a] H (fun v _ => v = V.bl true) fun _ _ _ => False) : AtTop P w K mg (glAd "law" K) a s₁ base H := by
  refine top_run F sc_law bind (k := 36) (sp := sp_lawT K) ⟨rfl, by decide, by decide⟩ (fun cdv outer s H vs Q E hr h => ⟨_, (pss_cons (ps_set (i := 1) sc_law.nd rfl (Or.inl rfl) (pe_c c__law_state hr (by decide) rfl (pa_cons (pv 0) (pa_cons (pe_op op_add pe_int (pe_op op_mod (pe_callB call_abs (by rfl) nb.abs (by decide +kernel) (pa_cons (pe_c c__law_cell hr (by decide) rfl (pa_cons (pv 0) (pa_cons pe_int pa_nil))) pa_nil)) pe_int)) pa_nil))))
    (pss_cons (ps_set (i := 2) sc_law.nd rfl (Or.inl rfl) (pe_c c__law_towered hr (by decide) rfl (pa_cons (pv 1) (pa_cons (pe_c c__law_far hr (by decide) rfl (pa_cons (pv 1) (pa_cons (pe_c c__law_value hr (by decide) rfl (pa_cons (pv 1) (pa_cons pe_int (pa_cons (pe_lstE (pa_cons pe_str (pa_cons pe_str (pa_cons pe_str (pa_cons pe_str (pa_cons pe_str pa_nil)))))) (pa_cons pe_bl pa_nil))))) pa_nil))) (pa_cons pe_bl pa_nil)))))
    (pss_cons (ps_set (i := 3) sc_law.nd rfl (Or.inr rfl) (pe_c c__law_walk hr (by decide) rfl (pa_cons (pv 2) pa_nil)))
    (pss_cons (ps_setLc (i := 4) (own := [("k", 6)]) (g := gName 6) rfl sc_law.nd rfl rfl (sw_true rfl rfl rfl (by decide +kernel)) (pi_range1 rfl nb.range (pa_cons (pe_callB call_len_seq (by rfl) nb.len PySem.boot_len (pa_cons (pv 3) pa_nil)) pa_nil)) (blkOk_by (N := ["script", "state", "value", "rows", "due", "told", "k"]) (sc := defScope s_law) (by decide +kernel)) (fun _ _ _ _ _ => pg_name (i := 6) sc_law.nd rfl (Or.inl rfl)) (fun _ _ _ _ _ => (pts_one (pt_val (pe_c c__law_lacks hr (by decide) rfl (pa_cons (pe_ix (show IxR _ (rIxL K) from ix_list) (pv 3) (pv 6) (fun _ _ => rfl)) pa_nil))))) (fun _ _ _ _ _ => (pv 6)))
    (pss_cons (ps_if (pt_cmpR (op_neD hr.units) (pv 4) (pe_lstE pa_nil) (nomark _))
    (pss_one (ps_ret (pe_and (pe_cmpR op_eq (pe_callB (cr_reprI hr rfl nb.dig) (by rfl) nb.repr (by decide +kernel) (pa_cons (pe_c c_cbor_lacks hr (by decide) rfl (pa_cons (pv 2) pa_nil)) pa_nil)) (pe_callB (cr_reprI hr rfl nb.dig) (by rfl) nb.repr (by decide +kernel) (pa_cons (pe_ix ix_list (pv 4) pe_int (fun _ _ => rfl)) pa_nil)) (nomark _)) (pe_one (pe_cmpR op_eq (pe_callB (cr_reprI hr rfl nb.dig) (by rfl) nb.repr (by decide +kernel) (pa_cons (pe_c c__law_told hr (by decide) rfl (pa_cons (pv 2) pa_nil)) pa_nil)) (pe_callB (cr_reprI hr rfl nb.dig) (by rfl) nb.repr (by decide +kernel) (pa_cons (pe_tupE (pa_cons pe_str (pa_cons (pe_ix ix_list (pv 4) pe_int (fun _ _ => rfl)) pa_nil))) pa_nil)) (nomark _))))))
    pss_nil)
    (pss_cons (ps_set (i := 5) sc_law.nd rfl (Or.inl rfl) (pe_c c__law_told hr (by decide) rfl (pa_cons (pv 2) pa_nil)))
    (pss_cons (ps_if (PW.pt (pw_or (pt_cmpR op_notN (pe_c c_cbor_lacks hr (by decide) rfl (pa_cons (pv 2) pa_nil)) pe_non (nomark _)) (pw_or1 (pt_cmpR op_ne (pe_callB (cr_reprI hr rfl nb.dig) (by rfl) nb.repr (by decide +kernel) (pa_cons (pv 5) pa_nil)) (pe_callB (cr_reprI hr rfl nb.dig) (by rfl) nb.repr (by decide +kernel) (pa_cons (pe_c c__law_written hr (by decide) rfl (pa_cons (pv 2) pa_nil)) pa_nil)) (nomark _)))))
    (pss_one (ps_ret pe_bl))
    pss_nil)
    (pss_cons (ps_expr (pe_bm PySem.F.plainAttrs_list PySem.F.slot_list_append PySem.F.type_list_append mt_append (pv 5) (pa_cons pe_int pa_nil)))
    (pss_one (ps_ret (pe_cmpR (op_eqD hr.units) (pe_c c__law_told hr (by decide) rfl (pa_cons (pv 2) pa_nil)) (pe_c c__law_written hr (by decide) rfl (pa_cons (pv 2) pa_nil)) (nomark _)))))))))))), ?_⟩) hs
  obtain ⟨_, rfl, sl, ns, rfl, hs, tb, h⟩ := h
  -- 0:script 1:state 2:value 3:rows 4:due 5:told 6:k
  walk_at "rf"
  refine ⟨_, _, rfl, sl, ns, 0, rfl, rfl, hs, by decide, fun z => ?_⟩
  walk_at "rf"
  refine ⟨_, _, rfl, sl, ns, 8 + (z.natAbs : Int) % 30, rfl, by congr 2; split <;> omega, hs, fun S H1 eS1 eS2 L1 s1 nS => ?_⟩
  walk_at "rf"
  refine ⟨by show 5 ≤ sizeLine; decide, fun kl H2 nkl gkl skl => ?_⟩
  have gkl : H2 kl = some (.lst (kinds5.map V.str)) := gkl
  walk_at "rf"
  refine ⟨_, _, _, _, rfl, S, _, 2, kl, kinds5, true, rfl, rfl, rfl, rfl, L1.ne_free nkl, gkl, kinds5_ok, by decide, L1.same skl, fun v t l3 H3 gf bud tp L3 k3 => ?_⟩
  walk_at "rf"
  refine ⟨_, v, rfl, S, _, t, rfl, L3, tp, gf, fun v2 t2 H4 gf2 sz2 tp2 L4 k4 => ?_⟩
  walk_at "rf"
  refine ⟨_, _, _, rfl, S, _, t2, true, rfl, rfl, L4, tp2, gf2, fun v4 t4 n4 H11 hn4 gf4 sz4 tp4 L11 k11 => ?_⟩
  have tb11 : TbL K H11 := tb.ext (same_keep (same_keep (same_keep (s1.trans skl) k3 nS) k4 nS) k11 nS)
  have vs4 : vsz t4 ≤ 3677 := by
    unfold Bud at bud
    omega
  obtain ⟨wd, lv⟩ := gf_wd n4 t4 gf4
  have tv : TpV H11 v4 t4 := ⟨tp4, wd⟩
  have nu : NumAll t4 := gf_num n4 t4 gf4
  have pl : (preV t4).length ≤ 4000 := Nat.le_trans (pre_vsz t4) (by omega)
  have sfo : fstL (preV t4) = none → t4.gf n4 ∧ Full t4 ∧ (octV t4).length ≤ 3300000 := fun e => by
    have q : Full t4 := fst_all e
    exact ⟨gf4, q, Nat.le_trans (oct_vsz n4 t4 gf4 q) (by omega)⟩
  have o8 : Oct8 (octV t4) := oct_octV n4 t4 gf4
  clear gkl bud tp tp2 L3 L4 k3 k4 gf gf2 L11 k11 tb
  walk_at "rf"
  refine ⟨_, rfl, t4, n4, tv, lv, by omega, by omega, fun pR ws H12 nR gR pw s12 => ?_⟩
  walk_at "rf"
  refine ⟨pR, ws, rfl, .inl (SqL.of gR), ?_⟩
  walk_at "rf"
  have wl := Paired.length pw
  refine ⟨by omega, by omega, fun D nD => lc_range (fun i H' => Same H12 H' ∧ H' D = some (.lst ((dueL (preV t4) i).map V.int))) ⟨same_upd nD _, upd_same⟩ ?_ ?_⟩
  · rintro i H' hi ⟨s3, gD⟩
    have hi : i < (preV t4).length := by omega
    obtain ⟨x, hx⟩ : ∃ x, ws[i]? = some x := ⟨_, List.getElem?_eq_getElem (by omega)⟩
    obtain ⟨e, he, te⟩ := paired_get pw hx
    obtain ⟨b, xs, rfl, hb, hxs⟩ := tpV_kind te
    have lge := nu e (List.mem_of_getElem? he)
    rw [Int.zero_add]
    walk_at "rf"
    refine ⟨rfl, ?_⟩
    walk_at "rf"
    refine r_ixL (SqL.of (s3 _ _ gR)) (atI_nat hx) ?_
    walk_at "rf"
    refine ⟨_, rfl, b, kindV e, xs, restV e, rfl, s3 _ _ hb, TpAll.tk (Same.tk s3) _ _ hxs, lge, ?_⟩
    have dl : (dueL (preV t4) i).length ≤ i := dueL_len _ _
    cases c : lackK (kindV e) (restV e) with
    | true =>
      walk_at "rf"
      refine ⟨_, gD, ?_, same_on s3 nD (fun c o n e => (upd_ne n).trans e), ?_⟩
      · rw [List.length_map]
        exact Nat.lt_of_le_of_lt (show _ ≤ 4000 by omega) (by decide)
      · rw [upd_same, dueL_succ he, show lackV e = true from c, List.map_append]
        rfl
    | false =>
      walk_at "rf"
      refine ⟨s3, ?_⟩
      rw [dueL_succ he, show lackV e = false from c]
      rw [if_neg Bool.false_ne_true, List.append_nil]
      exact gD
  · rintro H13 ⟨s3, gD⟩
    rw [show (ws.length : Int).toNat = (preV t4).length by omega] at gD
    walk_at "rf"
    have tv13 := tv.tk (Same.tk (s12.trans s3))
    have tb13 : TbL K H13 := tb11.ext (s12.trans s3)
    refine ⟨by show 0 ≤ sizeLine; decide, fun q5 H15 n5 g5 s15 => ?_⟩
    have gD15 := s15 _ _ gD
    have tv15 := tv13.tk (Same.tk s15)
    have tb15 : TbL K H15 := tb13.ext s15
    cases e : fstL (preV t4) with
    | some i =>
      obtain ⟨r, er⟩ := dueL_some e
      have hi : i < 16777216 := by
        obtain ⟨_, d, e2, _⟩ := fst_at e
        have := (List.getElem?_eq_some_iff.mp e2).1
        omega
      rw [er] at gD15
      refine r_neIL (b := []) (SqL.of gD15) (SqL.of g5) ?_
      rw [show (!decide ((i : Int) :: r = [])) = true from rfl]
      walk_at "rf"
      refine ⟨_, rfl, t4, tv15, nu, Nat.le_trans pl (by decide), fun H14 s14 => ?_⟩
      have gD14 := s14 _ _ gD15
      rw [e]
      walk_at "rf"
      refine .inr ⟨(i : Nat), rfl, log2_small hi, ?_⟩
      walk_at "rf"
      refine r_ixL (SqL.of gD14) (atI_nat (j := 0) rfl) ?_
      walk_at "rf"
      refine .inr ⟨(i : Nat), rfl, log2_small hi, ?_⟩
      walk_at "rf"
      rw [if_pos (decide_eq_true rfl)]
      walk_at "rf"
      have tv14 := tv15.tk (Same.tk s14)
      refine ⟨_, rfl, t4, n4, ⟨tv14, nu, Nat.le_trans pl (by decide), tb15.ext s14, fun e2 => by rw [e] at e2; cases e2⟩, fun i2 e2 T H17 gT s17 => ?_⟩
      rw [e] at e2
      cases e2
      obtain ⟨sh1, sh2, sh3⟩ := lacks_shw hi
      walk_at "rf"
      refine .inl ⟨_, _, rfl, lacks_dp gT, sh1, sh2, sh3, ?_⟩
      walk_at "rf"
      refine r_ixL (SqL.of (s17 _ _ gD14)) (atI_nat (j := 0) rfl) ?_
      walk_at "rf"
      refine ⟨by show 2 ≤ sizeLine; decide, fun T2 H18 nT2 gT2 s18 => ?_⟩
      walk_at "rf"
      refine .inl ⟨_, _, rfl, lacks_dp gT2, sh1, sh2, sh3, ?_⟩
      walk_at "rf"
      rw [decide_eq_true rfl]
      exact h _
    | none =>
      have er := dueL_none e _ (Nat.le_refl _)
      rw [er] at gD15
      refine r_neIL (b := []) (SqL.of gD15) (SqL.of g5) ?_
      rw [show (!decide (([] : List Int) = [])) = false from rfl]
      walk_at "rf"
      obtain ⟨sf, fu, ol⟩ := sfo e
      refine ⟨_, rfl, t4, n4, ⟨tv15, nu, Nat.le_trans pl (by decide), tb15, fun _ => ⟨sf, fu, by omega, by omega, fun w1 H16 f16 g16 x16 => ?_⟩⟩, fun i2 e2 => by rw [e] at e2; cases e2⟩
      have tv16 := tv15.tk x16.tk
      walk_at "rf"
      refine ⟨_, rfl, t4, tv16, nu, Nat.le_trans pl (by decide), fun H17 s17 => ?_⟩
      have tv17 := tv16.tk (Same.tk s17)
      have g17 := s17 _ _ g16
      have tb17 : TbL K H17 := x16.2.ext s17
      obtain ⟨sh1, sh2, sh3⟩ := oct_shw o8 ol
      rw [e]
      walk_at "rf"
      rw [show (!decide (optV none = V.non)) = false from rfl, if_neg Bool.false_ne_true]
      walk_at "rf"
      refine .inl ⟨_, _, rfl, octs_dp g17, sh1, sh2, sh3, ?_⟩
      walk_at "rf"
      refine ⟨_, rfl, t4, n4, tv17.1, sf, fu, by omega, by omega, fun w2 H18 n18 g18 s18 => ?_⟩
      have tv18 := tv17.tk (Same.tk s18)
      have g18b := s18 _ _ g17
      walk_at "rf"
      refine .inl ⟨_, _, rfl, octs_dp g18, sh1, sh2, sh3, ?_⟩
      walk_at "rf"
      rw [if_neg (by rw [decide_eq_true rfl]; exact Bool.false_ne_true)]
      walk_at "rf"
      refine ⟨tyL g18b, ?_⟩
      walk_at "rf"
      refine r_appE g18b (by rw [List.length_map]; exact Nat.lt_of_le_of_lt ol (by decide)) fun H19 g19 k19 => ?_
      have tv19 := tv18.tk (Eb.tk k19)
      have tb19 : TbL K H19 := ((x16.same (s17.trans s18)).put f16 g18b fun c o n e => (k19.1 c n).trans e).2
      walk_at "rf"
      refine ⟨_, rfl, t4, n4, ⟨tv19, nu, Nat.le_trans pl (by decide), tb19, fun _ => ⟨sf, fu, by omega, by omega, fun w3 H20 f20 g20 x20 => ?_⟩⟩, fun i2 e2 => by rw [e] at e2; cases e2⟩
      have tv20 := tv19.tk x20.tk
      walk_at "rf"
      refine ⟨_, rfl, t4, n4, tv20.1, sf, fu, by omega, by omega, fun w4 H21 n21 g21 s21 => ?_⟩
      walk_at "rf"
      refine ⟨_, _, octs_dp (s21 _ _ g20), octs_dp g21, PySem.W.shaped_ints _, PySem.W.shaped_ints _, ?_⟩
      rw [eqv_ints, decide_eq_true rfl]
      exact h _
end

theorem facts {P : Program} {w : World} {K : PySem.W.Frag} {h : Heap} {mg : Str → Option Value} {f : Addr} (X : K.In h) (G : h.Ns mainGlobals mg) (hfa : mg ("law" : Str) = some (.ref f)) (c : SaysX fa ex fn ts w K) (l : LamsAt lamsL h K) :
    ∃ fd : FuncData, (∀ (s : Shared) (v : Value), BindsTo s fd ⟨[v], []⟩ [("script", v)]) ∧ ∀ (s₁ : Shared) (base : Heap) (H : Hp) (a : Addr), K.In base → base.Ns mainGlobals mg → (∀ p ∈ csOf K lamsL, LamX.TabB base mg p.1 p.2) → sp_lawT K [.ref a] H (fun v _ => v = V.bl true) (fun _ _ _ => False) → AtTop P w K mg f a s₁ base H := by
  obtain ⟨fd_is_lacking, F_is_lacking⟩ := c.m.def_ 0 (d := d_is_lacking) rfl
  obtain ⟨fd_parts, F_parts⟩ := c.m.def_ 1 (d := d_parts) rfl
  obtain ⟨fd_walk, F_walk⟩ := c.m.def_ 2 (d := d_walk) rfl
  obtain ⟨fd_first_lacking, F_first_lacking⟩ := c.m.def_ 3 (d := d_first_lacking) rfl
  obtain ⟨fd_cbor_lacks, F_cbor_lacks⟩ := c.m.def_ 4 (d := d_cbor_lacks) rfl
  obtain ⟨fd__law_cell, F__law_cell⟩ := c.m.def_ 5 (d := d__law_cell) rfl
  obtain ⟨fd__law_numbers, F__law_numbers⟩ := c.m.def_ 6 (d := d__law_numbers) rfl
  obtain ⟨fd__law_state, F__law_state⟩ := c.m.def_ 7 (d := d__law_state) rfl
  obtain ⟨fd__law_next, F__law_next⟩ := c.m.def_ 8 (d := d__law_next) rfl
  obtain ⟨fd__law_points, F__law_points⟩ := c.m.def_ 9 (d := d__law_points) rfl
  obtain ⟨fd__law_big, F__law_big⟩ := c.m.def_ 10 (d := d__law_big) rfl
  obtain ⟨fd__law_normal, F__law_normal⟩ := c.m.def_ 11 (d := d__law_normal) rfl
  obtain ⟨fd__law_number, F__law_number⟩ := c.m.def_ 12 (d := d__law_number) rfl
  obtain ⟨fd__law_octets, F__law_octets⟩ := c.m.def_ 13 (d := d__law_octets) rfl
  obtain ⟨fd__law_leaf, F__law_leaf⟩ := c.m.def_ 14 (d := d__law_leaf) rfl
  obtain ⟨fd__law_value, F__law_value⟩ := c.m.def_ 15 (d := d__law_value) rfl
  obtain ⟨fd__law_far, F__law_far⟩ := c.m.def_ 16 (d := d__law_far) rfl
  obtain ⟨fd__law_towered, F__law_towered⟩ := c.m.def_ 17 (d := d__law_towered) rfl
  obtain ⟨fd__law_walk, F__law_walk⟩ := c.m.def_ 18 (d := d__law_walk) rfl
  obtain ⟨fd__law_big_endian, F__law_big_endian⟩ := c.m.def_ 19 (d := d__law_big_endian) rfl
  obtain ⟨fd__law_head, F__law_head⟩ := c.m.def_ 20 (d := d__law_head) rfl
  obtain ⟨fd__law_utf8, F__law_utf8⟩ := c.m.def_ 21 (d := d__law_utf8) rfl
  obtain ⟨fd__law_text, F__law_text⟩ := c.m.def_ 22 (d := d__law_text) rfl
  obtain ⟨fd__law_fewest, F__law_fewest⟩ := c.m.def_ 23 (d := d__law_fewest) rfl
  obtain ⟨fd__law_integer, F__law_integer⟩ := c.m.def_ 24 (d := d__law_integer) rfl
  obtain ⟨fd__law_number_written, F__law_number_written⟩ := c.m.def_ 25 (d := d__law_number_written) rfl
  obtain ⟨fd__law_leaf_written, F__law_leaf_written⟩ := c.m.def_ 26 (d := d__law_leaf_written) rfl
  obtain ⟨fd__law_written, F__law_written⟩ := c.m.def_ 27 (d := d__law_written) rfl
  obtain ⟨fd__law_lacks, F__law_lacks⟩ := c.m.def_ 28 (d := d__law_lacks) rfl
  obtain ⟨fd_AlikeError___init__, F_AlikeError___init__⟩ := c.m.def_ 29 (d := d_AlikeError___init__) rfl
  obtain ⟨fd_check_writable, F_check_writable⟩ := c.m.def_ 30 (d := d_check_writable) rfl
  obtain ⟨fd_wide, F_wide⟩ := c.m.def_ 31 (d := d_wide) rfl
  obtain ⟨fd_shortest_head, F_shortest_head⟩ := c.m.def_ 32 (d := d_shortest_head) rfl
  obtain ⟨fd__encode_long, F__encode_long⟩ := c.m.def_ 33 (d := d__encode_long) rfl
  obtain ⟨fd_encode, F_encode⟩ := c.m.def_ 34 (d := d_encode) rfl
  obtain ⟨fd_key_octets, F_key_octets⟩ := c.m.def_ 35 (d := d_key_octets) rfl
  obtain ⟨fd_power, F_power⟩ := c.m.def_ 36 (d := d_power) rfl
  obtain ⟨fd_whole, F_whole⟩ := c.m.def_ 37 (d := d_whole) rfl
  obtain ⟨fd_shortest, F_shortest⟩ := c.m.def_ 38 (d := d_shortest) rfl
  obtain ⟨fd__integer_octets, F__integer_octets⟩ := c.m.def_ 39 (d := d__integer_octets) rfl
  obtain ⟨fd__number_octets, F__number_octets⟩ := c.m.def_ 40 (d := d__number_octets) rfl
  obtain ⟨fd_leaf_octets, F_leaf_octets⟩ := c.m.def_ 41 (d := d_leaf_octets) rfl
  obtain ⟨fd__in_order, F__in_order⟩ := c.m.def_ 42 (d := d__in_order) rfl
  obtain ⟨fd__octets_of, F__octets_of⟩ := c.m.def_ 43 (d := d__octets_of) rfl
  obtain ⟨fd_write_cbor, F_write_cbor⟩ := c.m.def_ 44 (d := d_write_cbor) rfl
  obtain ⟨fd__law_told, F__law_told⟩ := c.m.def_ 45 (d := d__law_told) rfl
  obtain ⟨fd_law, F_law⟩ := c.m.def_ 46 (d := d_law) rfl
  have m_is_lacking := He.glo_ok X G (x := "is_lacking") (c.m.fact 0 rfl)
  have m_parts := He.glo_ok X G (x := "parts") (c.m.fact 1 rfl)
  have m_walk := He.glo_ok X G (x := "walk") (c.m.fact 2 rfl)
  have m_first_lacking := He.glo_ok X G (x := "first_lacking") (c.m.fact 3 rfl)
  have m_cbor_lacks := He.glo_ok X G (x := "cbor_lacks") (c.m.fact 4 rfl)
  have m__law_cell := He.glo_ok X G (x := "_law_cell") (c.m.fact 5 rfl)
  have m__law_numbers := He.glo_ok X G (x := "_law_numbers") (c.m.fact 6 rfl)
  have m__law_state := He.glo_ok X G (x := "_law_state") (c.m.fact 7 rfl)
  have m__law_next := He.glo_ok X G (x := "_law_next") (c.m.fact 8 rfl)
  have m__law_points := He.glo_ok X G (x := "_law_points") (c.m.fact 9 rfl)
  have m__law_big := He.glo_ok X G (x := "_law_big") (c.m.fact 10 rfl)
  have m__law_normal := He.glo_ok X G (x := "_law_normal") (c.m.fact 11 rfl)
  have m__law_number := He.glo_ok X G (x := "_law_number") (c.m.fact 12 rfl)
  have m__law_octets := He.glo_ok X G (x := "_law_octets") (c.m.fact 13 rfl)
  have m__law_leaf := He.glo_ok X G (x := "_law_leaf") (c.m.fact 14 rfl)
  have m__law_value := He.glo_ok X G (x := "_law_value") (c.m.fact 15 rfl)
  have m__law_far := He.glo_ok X G (x := "_law_far") (c.m.fact 16 rfl)
  have m__law_towered := He.glo_ok X G (x := "_law_towered") (c.m.fact 17 rfl)
  have m__law_walk := He.glo_ok X G (x := "_law_walk") (c.m.fact 18 rfl)
  have m__law_big_endian := He.glo_ok X G (x := "_law_big_endian") (c.m.fact 19 rfl)
  have m__law_head := He.glo_ok X G (x := "_law_head") (c.m.fact 20 rfl)
  have m__law_utf8 := He.glo_ok X G (x := "_law_utf8") (c.m.fact 21 rfl)
  have m__law_text := He.glo_ok X G (x := "_law_text") (c.m.fact 22 rfl)
  have m__law_fewest := He.glo_ok X G (x := "_law_fewest") (c.m.fact 23 rfl)
  have m__law_integer := He.glo_ok X G (x := "_law_integer") (c.m.fact 24 rfl)
  have m__law_number_written := He.glo_ok X G (x := "_law_number_written") (c.m.fact 25 rfl)
  have m__law_leaf_written := He.glo_ok X G (x := "_law_leaf_written") (c.m.fact 26 rfl)
  have m__law_written := He.glo_ok X G (x := "_law_written") (c.m.fact 27 rfl)
  have m__law_lacks := He.glo_ok X G (x := "_law_lacks") (c.m.fact 28 rfl)
  have m_check_writable := He.glo_ok X G (x := "check_writable") (c.m.fact 29 rfl)
  have m_wide := He.glo_ok X G (x := "wide") (c.m.fact 30 rfl)
  have m_shortest_head := He.glo_ok X G (x := "shortest_head") (c.m.fact 31 rfl)
  have m__encode_long := He.glo_ok X G (x := "_encode_long") (c.m.fact 32 rfl)
  have m_encode := He.glo_ok X G (x := "encode") (c.m.fact 33 rfl)
  have m_key_octets := He.glo_ok X G (x := "key_octets") (c.m.fact 34 rfl)
  have m_power := He.glo_ok X G (x := "power") (c.m.fact 35 rfl)
  have m_whole := He.glo_ok X G (x := "whole") (c.m.fact 36 rfl)
  have m_shortest := He.glo_ok X G (x := "shortest") (c.m.fact 37 rfl)
  have m__integer_octets := He.glo_ok X G (x := "_integer_octets") (c.m.fact 38 rfl)
  have m__number_octets := He.glo_ok X G (x := "_number_octets") (c.m.fact 39 rfl)
  have m_leaf_octets := He.glo_ok X G (x := "leaf_octets") (c.m.fact 40 rfl)
  have m__in_order := He.glo_ok X G (x := "_in_order") (c.m.fact 41 rfl)
  have m__octets_of := He.glo_ok X G (x := "_octets_of") (c.m.fact 42 rfl)
  have m_write_cbor := He.glo_ok X G (x := "write_cbor") (c.m.fact 43 rfl)
  have m__law_told := He.glo_ok X G (x := "_law_told") (c.m.fact 44 rfl)
  have m_law := He.glo_ok X G (x := "law") (c.m.fact 45 rfl)
  have xx : ex K = true := c.m.more
  have x0 := (both xx).1
  replace xx := (both xx).2
  have x1 := (both xx).1
  replace xx := (both xx).2
  have x2 := (both xx).1
  replace xx := (both xx).2
  have x3 := (both xx).1
  replace xx := (both xx).2
  have x4 := (both xx).1
  replace xx := (both xx).2
  have x5 := (both xx).1
  replace xx := (both xx).2
  have x6 := (both xx).1
  replace xx := (both xx).2
  have x7 := (both xx).1
  replace xx := (both xx).2
  have x8 := (both xx).1
  replace xx := (both xx).2
  have x9 := xx
  have nb : Nm w K mg := ⟨He.free_ok X G (c.m.fact 46 rfl),
    He.free_ok X G (c.m.fact 47 rfl),
    He.free_ok X G (c.m.fact 48 rfl),
    He.free_ok X G (c.m.fact 49 rfl),
    He.free_ok X G (c.m.fact 50 rfl),
    He.free_ok X G (c.m.fact 51 rfl),
    He.free_ok X G (c.m.fact 52 rfl),
    He.free_ok X G (c.m.fact 53 rfl),
    He.free_ok X G (c.m.fact 54 rfl),
    He.free_ok X G (c.m.fact 55 rfl),
    ⟨.ref _, _, He.glo_ok X G (c.m.fact 56 rfl), rfl, _, rfl, tab_ok (c.tab 0 rfl) x9 (by decide +kernel)⟩,
    conM X G x0,
    conI X G (c.m.fact 57 rfl),
    conI X G (c.m.fact 58 rfl),
    conI X G (c.m.fact 59 rfl),
    conI X G (c.m.fact 60 rfl),
    conI X G (c.m.fact 61 rfl),
    conI X G (c.m.fact 62 rfl),
    conI X G (c.m.fact 63 rfl),
    conI X G (c.m.fact 64 rfl),
    conI X G (c.m.fact 65 rfl),
    conI X G (c.m.fact 66 rfl),
    conI X G (c.m.fact 67 rfl),
    conI X G (c.m.fact 68 rfl),
    conI X G (c.m.fact 69 rfl),
    conI X G (c.m.fact 70 rfl),
    conI X G (c.m.fact 71 rfl),
    conI X G (c.m.fact 72 rfl),
    conI X G (c.m.fact 73 rfl),
    He.glo_ok X G (c.m.fact 74 rfl),
    exkM x1,
    He.glo_ok X G (c.m.fact 75 rfl),
    exkM x2,
    He.glo_ok X G (c.m.fact 76 rfl),
    exkM x3,
    isxM x4,
    of_decide_eq_true x5,
    of_decide_eq_true x6,
    of_decide_eq_true x7,
    He.glo_ok X G (c.m.fact 77 rfl),
    digK_ok x8⟩
  have e := hfa.symm.trans m_law
  cases e
  have b := FunD.bindsA (ps := ["script"]) F_law fun _ _ _ _ _ _ us hl => match us, hl with | [_], _ => rfl
  refine ⟨fd_law, fun s v => b s [v] rfl, fun s₁ base H a _ _ tbh hs => ?_⟩
  have TB : ∀ q, q ∈ lamsL → LamX.TabB base mg (codeAt K (glAd q K)) (tabAt K q) := fun q hq => tbh _ (List.mem_map.mpr ⟨q, hq, rfl⟩)
  have lamN := l.nd
  have c_is_lacking := ok_is_lacking (P := P) (w := w) (base := base) F_is_lacking m_is_lacking nb
  have c_parts := ok_parts (P := P) (w := w) (base := base) F_parts m_parts nb
  have c_walk := ok_walk (P := P) (w := w) (base := base) F_walk m_walk nb c_parts
  have c_first_lacking := ok_first_lacking (P := P) (w := w) (base := base) F_first_lacking m_first_lacking nb c_is_lacking c_walk
  have c_cbor_lacks := ok_cbor_lacks (P := P) (w := w) (base := base) F_cbor_lacks m_cbor_lacks nb c_first_lacking
  have c__law_cell := ok__law_cell (P := P) (w := w) (base := base) F__law_cell m__law_cell nb
  have c__law_numbers := ok__law_numbers (P := P) (w := w) (base := base) F__law_numbers m__law_numbers nb
  have c__law_state := ok__law_state (P := P) (w := w) (base := base) F__law_state m__law_state nb c__law_cell c__law_numbers
  have c__law_next := ok__law_next (P := P) (w := w) (base := base) F__law_next m__law_next nb
  have c__law_points := ok__law_points (P := P) (w := w) (base := base) F__law_points m__law_points nb c__law_next
  have c__law_big := ok__law_big (P := P) (w := w) (base := base) F__law_big m__law_big nb c__law_cell c__law_next
  have c__law_normal := ok__law_normal (P := P) (w := w) (base := base) F__law_normal m__law_normal nb
  have c__law_number := ok__law_number (P := P) (w := w) (base := base) F__law_number m__law_number nb c__law_next c__law_big c__law_normal
  have c__law_octets := ok__law_octets (P := P) (w := w) (base := base) F__law_octets m__law_octets nb c__law_next
  have c__law_leaf := ok__law_leaf (P := P) (w := w) (base := base) F__law_leaf m__law_leaf nb c__law_next c__law_number c__law_points c__law_octets
  have c__law_value := rec__law_value (P := P) (w := w) (base := base) F__law_value m__law_value nb c__law_next c__law_points c__law_leaf 5
  have c__law_far := ok__law_far (P := P) (w := w) (base := base) F__law_far m__law_far nb c__law_next
  have c__law_towered := ok__law_towered (P := P) (w := w) (base := base) F__law_towered m__law_towered nb c__law_next
  have c__law_walk := rec__law_walk (P := P) (w := w) (base := base) F__law_walk m__law_walk nb 26
  have c__law_big_endian := ok__law_big_endian (P := P) (w := w) (base := base) F__law_big_endian m__law_big_endian nb
  have c__law_head := ok__law_head (P := P) (w := w) (base := base) F__law_head m__law_head nb c__law_big_endian
  have c__law_utf8 := ok__law_utf8 (P := P) (w := w) (base := base) F__law_utf8 m__law_utf8 nb
  have c__law_text := ok__law_text (P := P) (w := w) (base := base) F__law_text m__law_text nb c__law_utf8 c__law_head
  have c__law_fewest := ok__law_fewest (P := P) (w := w) (base := base) F__law_fewest m__law_fewest nb
  have c__law_integer := ok__law_integer (P := P) (w := w) (base := base) F__law_integer m__law_integer nb c__law_fewest c__law_head
  have c__law_number_written := ok__law_number_written (P := P) (w := w) (base := base) F__law_number_written m__law_number_written nb c__law_integer
  have c__law_leaf_written := ok__law_leaf_written (P := P) (w := w) (base := base) F__law_leaf_written m__law_leaf_written nb c__law_head c__law_number_written c__law_text
  have c__law_written := rec__law_written (P := P) (w := w) (base := base) F__law_written m__law_written nb c__law_head c__law_text c__law_leaf_written 26
  have c__law_lacks := ok__law_lacks (P := P) (w := w) (base := base) F__law_lacks m__law_lacks nb
  have z_Unwritable : Raz P w K mg base "Unwritable" (C_Unwritable K) "what" := razM F_AlikeError___init__ sc_AlikeError___init__ nb.x_Unwritable nb.g_Unwritable (fun _ _ _ _ _ _ _ us its hu hi => match us, its, hu, hi with | [_, _], [_], _, _ => ⟨_, rfl, rfl⟩) (fun _ _ _ _ _ _ => pss_one (ps_ost (pv 0) (pv 1)))
  have z_AlikeError : Raz P w K mg base "AlikeError" (C_AlikeError K) "what" := razM F_AlikeError___init__ sc_AlikeError___init__ nb.x_AlikeError nb.g_AlikeError (fun _ _ _ _ _ _ _ us its hu hi => match us, its, hu, hi with | [_, _], [_], _, _ => ⟨_, rfl, rfl⟩) (fun _ _ _ _ _ _ => pss_one (ps_ost (pv 0) (pv 1)))
  have z_Unreadable : Raz P w K mg base "Unreadable" (C_Unreadable K) "what" := razM F_AlikeError___init__ sc_AlikeError___init__ nb.x_Unreadable nb.g_Unreadable (fun _ _ _ _ _ _ _ us its hu hi => match us, its, hu, hi with | [_, _], [_], _, _ => ⟨_, rfl, rfl⟩) (fun _ _ _ _ _ _ => pss_one (ps_ost (pv 0) (pv 1)))
  have c_check_writable := ok_check_writable (P := P) (w := w) (base := base) F_check_writable m_check_writable nb z_Unwritable c_first_lacking
  have c_wide := ok_wide (P := P) (w := w) (base := base) F_wide m_wide nb
  have c_shortest_head := ok_shortest_head (P := P) (w := w) (base := base) F_shortest_head m_shortest_head nb c_wide
  have c__encode_long := ok__encode_long (P := P) (w := w) (base := base) F__encode_long m__encode_long nb
  have c_encode := ok_encode (P := P) (w := w) (base := base) F_encode m_encode nb c__encode_long
  have c_key_octets := ok_key_octets (P := P) (w := w) (base := base) F_key_octets m_key_octets nb c_shortest_head c_encode
  have c_power := ok_power (P := P) (w := w) (base := base) F_power m_power nb
  have c_whole := ok_whole (P := P) (w := w) (base := base) F_whole m_whole nb c_power
  have c_shortest := ok_shortest (P := P) (w := w) (base := base) F_shortest m_shortest nb c_wide
  have c__integer_octets := ok__integer_octets (P := P) (w := w) (base := base) F__integer_octets m__integer_octets nb c_shortest c_shortest_head
  have c__number_octets := ok__number_octets (P := P) (w := w) (base := base) F__number_octets m__number_octets nb c_shortest_head c_whole c__integer_octets
  have c_leaf_octets := ok_leaf_octets (P := P) (w := w) (base := base) F_leaf_octets m_leaf_octets nb c_shortest_head c_key_octets c__number_octets
  have c__in_order := ok__in_order (P := P) (w := w) (base := base) F__in_order m__in_order nb TB lamN c_key_octets
  have c__octets_of := rec__octets_of (P := P) (w := w) (base := base) F__octets_of m__octets_of nb c_shortest_head c_leaf_octets c__in_order 26
  have c_write_cbor := ok_write_cbor (P := P) (w := w) (base := base) F_write_cbor m_write_cbor nb c_check_writable c__octets_of
  have c__law_told := ok__law_told (P := P) (w := w) (base := base) F__law_told m__law_told nb z_AlikeError c_write_cbor
  exact ok_law F_law nb c_cbor_lacks c__law_cell c__law_state c__law_value c__law_far c__law_towered c__law_walk c__law_written c__law_lacks c__law_told (fun s v => b s [v] rfl) hs
end Fa
open PySem PySem.W PySem.Calls PyProof.Rows
theorem PySem.Challenge.cw_formsalike_k19_cbor_written_holds : PySem.Challenge.rw_formsalike_k19_cbor_written.Holds := by
  w_on; o_law
  refine HandSHeadRun.head_any (r := OpenLaw.row PySem.Challenge.rw_formsalike_k19_cbor_written) (q := view (OpenLaw.row PySem.Challenge.rw_formsalike_k19_cbor_written).prog [77]) (H := Fa.hk) (ob := Fa.ob) (M := 6000) (loose := Fa.loose) (d := HandSHeadRun.topDef (OpenLaw.row PySem.Challenge.rw_formsalike_k19_cbor_written).prog 77) (kwd := []) Fa.ob_eq
    (by kernel_rfl) (fun s => by kernel_rfl) Fa.run (by kernel_rfl) (by kernel_rfl) (by kernel_rfl) (by rfl) (by first | assumption | decide +kernel) (by decide +kernel) ⟨rfl, rfl, rfl, rfl, rfl, by decide +kernel⟩ ?hw ?hc
  case hw => w_witness2
  case hc =>
    refine Fa.walk_topT (l := PySem.Challenge.rw_formsalike_k19_cbor_written) (n := 63) rfl (by decide) (by kernel_rfl) ?F
    intro w mg fa h Y G hmg0
    obtain ⟨K, KX, c, l⟩ := Y
    have hmg : mg ("law" : PySem.Str) = some (.ref fa) := by
      have e : (HandSHeadRun.topDef (OpenLaw.row PySem.Challenge.rw_formsalike_k19_cbor_written).prog 77).name = ("law" : PySem.Str) := by kernel_rfl
      rw [← e]
      exact hmg0
    obtain ⟨fd, hb, hF⟩ := Fa.facts (P := (PySem.Challenge.rw_formsalike_k19_cbor_written).prog) (w := w) KX G hmg c l
    exact ⟨K, Fa.csOf K Fa.lamsL, KX, Fa.tabsH_of KX l, fun s1 base H a ns _ q1 q2 q3 q4 q5 => hF s1 base H a q1 q2 q3 ⟨_, rfl, a, ns, rfl, q5, Fa.tbs_at q4, fun _ => rfl⟩⟩
