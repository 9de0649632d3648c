import PyProof.Rows.All
import Wide.All
import OpenK.AllK
import Wide.FinOn
import KE.KStateDown
import KE.GoesMore
import KE.GoesEnum
import HandS.Iter
import HandS.TupLe
import HandS.Deep
import KE.KEqSeq
import KE.KEqDeep
import HandS.ForMost
import HandS.Exc
import HandS.More
import HandS.Wide
import HandS.Property
import HandS.WideBits
import HandS.Conv
import HandS.Codes
import HandS.IsInst
import HandS.Flow
import HandS.Defaults
import HandS.EndBits
import HandS.Head0
import HandS.Head1
import HandS.Head2
import KE.KExcIs
import KE.SortData
import HandS.GenList
import HandS.StrMore
import HandS.RevTup
import HandS.Rev
import KE.KIntText
import PyProof.Rows.StrFirst
import HandS.CallLocal
import HandS.AnyAll
import HandS.HeadEnd
import HandS.HeadHook1
import HandS.HeadHook2
import HandS.NoneIn
import HandS.TupAny
import HandS.Style
import HandS.SortRule
import HandS.DictTup
import HandS.TupLe
import HandS.Deep
import PySem.Challenge.RW_formsalike_k36_bencode_written
import HandS.ExcOwn
import HandS.ExcInit
import HandS.ExcField
import HandS.WordsExc
set_option Elab.async false
set_option linter.all false
set_option maxRecDepth 100000
set_option maxHeartbeats 4000000
namespace Fa
open PySem PySem.Spec L2 SX
open PyProof.Rows (envOfC)
open C8 (Cal pe_c Mak pe_mk Met pe_mt pe_mt0 pe_gc tCut pss_cut)
def top (i : Nat) : Stmt := PySem.Challenge.pw_formsalike_k36_bencode_written.main.body.getD i (.Pass ⟨0, 0, 0, 0⟩)

/-! ### readings, a step each -/
section
variable {σ : St} {H : Hp} {n b c : St → Hp → Prop} {r : VK} {Q : VK} {K : PySem.W.Frag}
theorem r_seq {t u : TS} (h : t ⟨u ⟨n, r, b, c⟩, r, b, c⟩ σ H) : tSeq t u ⟨n, r, b, c⟩ σ H := h
theorem r_asg {te : TE} {g : TG} (h : te σ H fun x H1 => g x σ H1 n) : tAsg te g ⟨n, r, b, c⟩ σ H := h
theorem r_name {i : Nat} {v : V} {R : St → Hp → Prop} (h : R (σ.set i (some v)) H) : gName i v σ H R := h
theorem r_var {i : Nat} {v : V} (e : σ[i]? = some (some v)) (h : Q v H) : tVar i σ H Q := ⟨v, e, h⟩
theorem r_c {v : V} (h : Q v H) : tC v σ H Q := h
theorem r_op {r : R2} {ta tb : TE} (h : ta σ H fun x H1 => tb σ H1 fun y H2 => r x y H2 Q) : tOp r ta tb σ H Q := h
theorem r_un {r : V → Hp → VK → Prop} {ta : TE} (h : ta σ H fun x H1 => r x H1 Q) : tUn r ta σ H Q := h
theorem r_I0 {g : Int → Int → V} {i j : Int} (h : Q (g i j) H) : rI0 g (.int i) (.int j) H Q := ⟨i, j, rfl, rfl, h⟩
theorem r_I {C : Int → Int → Prop} {g : Int → Int → V} {i j : Int} (c : C i j) (h : Q (g i j) H) : rI C g (.int i) (.int j) H Q := ⟨i, j, rfl, rfl, c, h⟩
theorem r_U {g : Int → V} {i : Int} (h : Q (g i) H) : rU g (.int i) H Q := ⟨i, rfl, h⟩
theorem r_eqI {i j : Int} (h : Q (.bl (decide (i = j))) H) : rEq (.int i) (.int j) H Q := by
  have e : decide (V.int i = V.int j) = decide (i = j) := by simp
  exact ⟨rfl, by rw [e]; exact h⟩
theorem r_neI {i j : Int} (h : Q (.bl (!decide (i = j))) H) : rNe (.int i) (.int j) H Q := by
  have e : decide (V.int i = V.int j) = decide (i = j) := by simp
  exact ⟨rfl, by rw [e]; exact h⟩
theorem r_eqS {i j : Str} (h : Q (.bl (decide (i = j))) H) : rEq (.str i) (.str j) H Q := by
  have e : decide (V.str i = V.str j) = decide (i = j) := by simp
  exact ⟨rfl, by rw [e]; exact h⟩
theorem r_neS {i j : Str} (h : Q (.bl (!decide (i = j))) H) : rNe (.str i) (.str j) H Q := by
  have e : decide (V.str i = V.str j) = decide (i = j) := by simp
  exact ⟨rfl, by rw [e]; exact h⟩
theorem r_nil {R : List V → Hp → Prop} (h : R [] H) : tNil σ H R := h
theorem r_cons {te : TE} {t : TA} {R : List V → Hp → Prop} (h : te σ H fun x H1 => t σ H1 fun xs H2 => R (x :: xs) H2) : tCons te t σ H R := h
theorem r_drop {te : TE} (h : te σ H fun _ H1 => n σ H1) : tDrop te ⟨n, r, b, c⟩ σ H := h
theorem r_ret {te : TE} (h : te σ H r) : tRet te ⟨n, r, b, c⟩ σ H := h
theorem r_retN (h : r .non H) : tRetN ⟨n, r, b, c⟩ σ H := h
theorem r_next (h : n σ H) : tNext ⟨n, r, b, c⟩ σ H := h
theorem r_brk (h : b σ H) : tBreak ⟨n, r, b, c⟩ σ H := h
theorem r_if {e : TT} {t u : TS} (h : e σ H fun k H1 => if k = true then t ⟨n, r, b, c⟩ σ H1 else u ⟨n, r, b, c⟩ σ H1) : tIfS e t u ⟨n, r, b, c⟩ σ H := h
theorem r_ifE {c : TT} {ta tb : TE} (h : c σ H fun b H1 => if b = true then ta σ H1 Q else tb σ H1 Q) : tIf c ta tb σ H Q := h
theorem r_test {te : TE} {R : Bool → Hp → Prop} (h : te σ H fun x H' => ∃ k, x = .bl k ∧ R k H') : tTest te σ H R := h
theorem r_B {te : TE} {R : Bool → Hp → Prop} (h : te σ H fun x H' => ∃ k, x = .bl k ∧ R k H') : tB te σ H R := h
theorem r_bl {b : Bool} {R : Bool → Prop} (h : R b) : ∃ k, V.bl b = .bl k ∧ R k := ⟨b, rfl, h⟩
theorem r_and {t u : TT} {R : Bool → Hp → Prop} (h : t σ H fun c H1 => if c = true then u σ H1 R else R false H1) : tAnd t u σ H R := h
theorem r_or {t u : TT} {R : Bool → Hp → Prop} (h : t σ H fun c H1 => if c = true then R true H1 else u σ H1 R) : tOr t u σ H R := h
theorem r_not {t : TT} {R : Bool → Hp → Prop} (h : t σ H fun c H1 => R (!c) H1) : tNot t σ H R := h
theorem r_andV {ta tb : TE} (h : ta σ H fun x H1 => ∃ c, x = .bl c ∧ if c = true then tb σ H1 Q else Q (.bl false) H1) : tAndV ta tb σ H Q := h
theorem r_orV {ta tb : TE} (h : ta σ H fun x H1 => ∃ c, x = .bl c ∧ if c = true then Q (.bl true) H1 else tb σ H1 Q) : tOrV ta tb σ H Q := h
theorem r_notV {ta : TE} (h : ta σ H fun x H1 => ∃ c, x = .bl c ∧ Q (.bl (!c)) H1) : tNotV ta σ H Q := h
theorem r_chain {r r' : R2} {ta tb tc : TE} (h : ta σ H fun x H1 => tb σ H1 fun y H2 => r x y H2 fun z H3 => ∃ k, z = .bl k ∧ (if k = true then tc σ H3 fun w' H4 => r' y w' H4 Q else Q (.bl false) H3)) : tChain r r' ta tb tc σ H Q := h
theorem r_tup {t : TA} (h : t σ H fun xs H1 => xs.length ≤ sizeLine ∧ ∀ p, H1 p = none → Q (.ref p) (upd H1 p (.tup xs))) : tTup t σ H Q := h
theorem r_lst {t : TA} (h : t σ H fun xs H1 => xs.length ≤ sizeLine ∧ ∀ p, H1 p = none → Q (.ref p) (upd H1 p (.lst xs))) : tLst t σ H Q := h
theorem r_call {sp : Sp} {dvs : List V} {E : XK} {t : TA} (h : t σ H fun vs H1 => sp (vs ++ dvs) H1 Q E) : tCall sp dvs E t σ H Q := h
theorem r_CB {r : List V → Hp → VK → Prop} {t : TA} (h : t σ H fun vs H1 => r vs H1 Q) : tCB r t σ H Q := h
theorem r_ixL {p : Addr} {xs : List V} {i : Int} {v : V} (hs : SqL K H p xs) (e : atI xs i = some v) (h : Q v H) : rIxL K (.ref p) (.int i) H Q := ⟨p, xs, i, v, rfl, rfl, hs, e, h⟩
theorem r_ixT {p : Addr} {xs : List V} {i : Int} {v : V} (hs : SqT K H p xs) (e : atI xs i = some v) (h : Q v H) : rIxT K (.ref p) (.int i) H Q := ⟨p, xs, i, v, rfl, rfl, hs, e, h⟩
theorem r_ite {p : Prop} [Decidable p] {A B : Prop} (h1 : p → A) (h2 : ¬ p → B) : if decide p = true then A else B := by
  by_cases c : p
  · rw [if_pos (decide_eq_true c)]
    exact h1 c
  · rw [if_neg (by simp [c])]
    exact h2 c
theorem r_iten {p : Prop} [Decidable p] {A B : Prop} (h1 : ¬ p → A) (h2 : p → B) : if (!decide p) = true then A else B := by
  by_cases c : p
  · rw [if_neg (by simp [c])]
    exact h2 c
  · rw [if_pos (by simp [c])]
    exact h1 c
theorem r_itep {p : Prop} [Decidable p] {A B : Prop} (c : p) (h : A) : if decide p = true then A else B := by
  rw [if_pos (decide_eq_true c)]
  exact h
theorem r_iteN {p : Prop} [Decidable p] {A B : Prop} (c : ¬ p) (h : B) : if decide p = true then A else B := by
  rw [if_neg (by simp [c])]
  exact h
theorem r_iteF {A B : Prop} (h : B) : if false = true then A else B := by
  rw [if_neg Bool.false_ne_true]
  exact h
theorem r_iteT {A B : Prop} (h : A) : if true = true then A else B := by
  rw [if_pos rfl]
  exact h
theorem r_iteNT {A B : Prop} (h : B) : if (!true) = true then A else B := by
  rw [if_neg (by decide)]
  exact h
theorem r_iteNF {A B : Prop} (h : A) : if (!false) = true then A else B := by
  rw [if_pos (by decide)]
  exact h
theorem r_no {p : Prop} [Decidable p] {A B : Prop} (c : p) (h : B) : if (!decide p) = true then A else B := by
  rw [if_neg (by simp [c])]
  exact h
/-- a for over a written range(m) -/
theorem r_forN {v : Int} {g : TG} {tb : TS} (m : Nat) (e : v = (m : Int)) (hn : m < 2 ^ 62) (Pv : Nat → St → Hp → Prop) (h0 : Pv 0 σ H)
    (hs : ∀ (i : Nat) σ H, i < m → Pv i σ H → g (.int (i : Int)) σ H fun σ2 H2 => tb ⟨Pv (i + 1), r, n, Pv (i + 1)⟩ σ2 H2) (hd : ∀ σ H, Pv m σ H → n σ H) : tFor (iRng1 (tCons (tC (.int v)) tNil)) g tb ⟨n, r, b, c⟩ σ H := by
  subst e
  refine ⟨(m : Int), rfl, by omega, by omega, for_range Pv h0 (fun i σ H hi p => ?_) hd⟩
  rw [Int.zero_add]
  exact hs i σ H (by omega) p
/-- a for over range(v), v in a slot -/
theorem r_forV {v : Int} {k : Nat} {g : TG} {tb : TS} (e : σ[k]? = some (some (.int v))) (h1 : -(2 ^ 62) ≤ v) (h2 : v < 2 ^ 62) (Pv : Nat → St → Hp → Prop) (h0 : Pv 0 σ H)
    (hs : ∀ (i : Nat) σ H, (i : Int) < v → Pv i σ H → g (.int (i : Int)) σ H fun σ2 H2 => tb ⟨Pv (i + 1), r, n, Pv (i + 1)⟩ σ2 H2) (hd : ∀ σ H, Pv v.toNat σ H → n σ H) : tFor (iRng1 (tCons (tVar k) tNil)) g tb ⟨n, r, b, c⟩ σ H := by
  refine ⟨_, e, v, rfl, h1, h2, for_range Pv h0 (fun i σ H hi p => ?_) hd⟩
  rw [Int.zero_add]
  exact hs i σ H (by omega) p
/-- a for over range(e), the turns behind its reading -/
theorem r_for {wi : TI} {g : TG} {tb : TS} (h : wi σ H fun J H1 => ∃ W : Nat → Nat → St → Hp → Prop, (∃ m, W 0 m σ H1) ∧ ∀ i m σ H, W i m σ H →
    (J.stop i H ∧ n σ H) ∨ (J.go i H ∧ ∃ N : St → Hp → Prop, (∀ σ' H', N σ' H' → ∃ m', m' < m ∧ W (i + 1) m' σ' H') ∧ ∀ x H', J.yld i H x H' → g x σ H' fun σ2 H2 => tb ⟨N, r, n, N⟩ σ2 H2)) : tFor wi g tb ⟨n, r, b, c⟩ σ H := h
theorem r_rng1 {ta : TA} {R : It → Hp → Prop} (h : ta σ H fun vs H1 => ∃ j : Int, vs = [.int j] ∧ -(2 ^ 62) ≤ j ∧ j < 2 ^ 62 ∧ R (Itr 0 j.toNat) H1) : iRng1 ta σ H R := h
/-- .. the turns -/
theorem r_turns {j : Int} {g : TG} {tb : TS} (h1 : -(2 ^ 62) ≤ j) (h2 : j < 2 ^ 62) (Pv : Nat → St → Hp → Prop) (h0 : Pv 0 σ H)
    (hs : ∀ (i : Nat) σ H, (i : Int) < j → Pv i σ H → g (.int (i : Int)) σ H fun σ2 H2 => tb ⟨Pv (i + 1), r, n, Pv (i + 1)⟩ σ2 H2) (hd : ∀ σ H, Pv j.toNat σ H → n σ H) :
    -(2 ^ 62) ≤ j ∧ j < 2 ^ 62 ∧ ∃ W : Nat → Nat → St → Hp → Prop, (∃ m, W 0 m σ H) ∧ ∀ i m σ H, W i m σ H →
    ((Itr 0 j.toNat).stop i H ∧ n σ H) ∨ ((Itr 0 j.toNat).go i H ∧ ∃ N : St → Hp → Prop, (∀ σ' H', N σ' H' → ∃ m', m' < m ∧ W (i + 1) m' σ' H') ∧ ∀ x H', (Itr 0 j.toNat).yld i H x H' → g x σ H' fun σ2 H2 => tb ⟨N, r, n, N⟩ σ2 H2) := by
  refine ⟨h1, h2, for_range (D := ⟨n, r, fun _ _ => False, fun _ _ => False⟩) Pv h0 (fun i σ H hi p => ?_) hd⟩
  rw [Int.zero_add]
  exact hs i σ H (by omega) p
theorem r_while {e : TT} {tb : TS} (W : Nat → St → Hp → Prop) (m : Nat) (h0 : W m σ H)
    (hs : ∀ m σ H, W m σ H → e σ H fun k H1 => if k = true then ∃ N : St → Hp → Prop, (∀ σ' H', N σ' H' → ∃ m', m' < m ∧ W m' σ' H') ∧ tb ⟨N, r, n, N⟩ σ H1 else n σ H1) : tWhile e tb ⟨n, r, b, c⟩ σ H := ⟨W, ⟨m, h0⟩, hs⟩
theorem r_turn {tb : TS} {W : Nat → St → Hp → Prop} {m : Nat} (h : tb ⟨fun σ' H' => ∃ m', m' < m ∧ W m' σ' H', r, n, fun σ' H' => ∃ m', m' < m ∧ W m' σ' H'⟩ σ H) :
    ∃ N : St → Hp → Prop, (∀ σ' H', N σ' H' → ∃ m', m' < m ∧ W m' σ' H') ∧ tb ⟨N, r, n, N⟩ σ H := ⟨_, fun _ _ h => h, h⟩
end
/-! ### promises by the number of arguments -/
def sp1 (f : V → Hp → VK → XK → Prop) : Sp := fun vs H Q E => ∃ a, vs = [a] ∧ f a H Q E
def sp2 (f : V → V → Hp → VK → XK → Prop) : Sp := fun vs H Q E => ∃ a b, vs = [a, b] ∧ f a b H Q E
def sp3 (f : V → V → V → Hp → VK → XK → Prop) : Sp := fun vs H Q E => ∃ a b c, vs = [a, b, c] ∧ f a b c H Q E
def sp4 (f : V → V → V → V → Hp → VK → XK → Prop) : Sp := fun vs H Q E => ∃ a b c d, vs = [a, b, c, d] ∧ f a b c d H Q E
def sp5 (f : V → V → V → V → V → Hp → VK → XK → Prop) : Sp := fun vs H Q E => ∃ a b c d e, vs = [a, b, c, d, e] ∧ f a b c d e H Q E
def sp6 (f : V → V → V → V → V → V → Hp → VK → XK → Prop) : Sp := fun vs H Q E => ∃ a b c d e g, vs = [a, b, c, d, e, g] ∧ f a b c d e g H Q E
theorem len5 {f} (vs : List V) (H : Hp) (Q : VK) (E : XK) (h : sp5 f vs H Q E) : vs.length = 5 := by
  obtain ⟨_, _, _, _, _, rfl, _⟩ := h
  rfl
theorem len6 {f} (vs : List V) (H : Hp) (Q : VK) (E : XK) (h : sp6 f vs H Q E) : vs.length = 6 := by
  obtain ⟨_, _, _, _, _, _, rfl, _⟩ := h
  rfl
theorem len1 {f} (vs : List V) (H : Hp) (Q : VK) (E : XK) (h : sp1 f vs H Q E) : vs.length = 1 := by
  obtain ⟨_, rfl, _⟩ := h
  rfl
theorem len2 {f} (vs : List V) (H : Hp) (Q : VK) (E : XK) (h : sp2 f vs H Q E) : vs.length = 2 := by
  obtain ⟨_, _, rfl, _⟩ := h
  rfl
theorem len3 {f} (vs : List V) (H : Hp) (Q : VK) (E : XK) (h : sp3 f vs H Q E) : vs.length = 3 := by
  obtain ⟨_, _, _, rfl, _⟩ := h
  rfl
theorem len4 {f} (vs : List V) (H : Hp) (Q : VK) (E : XK) (h : sp4 f vs H Q E) : vs.length = 4 := by
  obtain ⟨_, _, _, _, rfl, _⟩ := h
  rfl
/-- a def's promise from its body -/
theorem calD {P : Program} {w : World} {K : PySem.W.Frag} {mg : Str → Option Value} {base : Heap} {x qual : Str} {params : Arguments} {body : List Stmt} {scope : Scope} {f : Addr} {fd : FuncData} {N ps : List Str} {k : Nat} {sp : Sp}
    (F : FunD K x qual params body scope [] [] f fd) (m : mg x = some (.ref f)) (S : FnScope N ps scope)
    (hb : ∀ (kV doc pm : Value) (an : Option Addr) (cdv ct : Value) (us : List Value), us.length = ps.length → bindArgs (PySem.W.fnOf x qual params body scope .none kV doc pm an cdv ct) ⟨us, []⟩ = pure (ps.zip us))
    (len : ∀ vs H Q E, sp vs H Q E → vs.length = ps.length)
    (hbody : ∀ (cdv : Value) (A : Around) (outer : List Env) (s : Shared) (H : Hp) (vs : List V) (Q : VK) (E : XK), Room k (A.deeper (envOfC qual scope s.heap.objs.size f cdv)) → sp vs H Q E →
      ∃ t, PSs (cxOf CX0 P w K mg base N qual scope f cdv A outer s H E).nox body t ∧ t { nx := fun _ H' => Q .non H', rt := Q } (start N vs) H) : Cal P w K mg base (k + 1) x sp [] :=
  ⟨f, fd, ps, [], F.ok S len fun cdv A outer s H vs Q E hr h => by
    obtain ⟨t, h1, h2⟩ := hbody cdv A outer s H vs Q E hr h
    exact ⟨t, h1.nox, h2⟩, m, F.kp, F.bindsN hb, .nil⟩
theorem fnD {P : Program} {w : World} {K : PySem.W.Frag} {mg : Str → Option Value} {base : Heap} {x qual : Str} {params : Arguments} {body : List Stmt} {scope : Scope} {f : Addr} {fd : FuncData} {N ps : List Str} {k : Nat} {sp : Sp}
    (F : FunD K x qual params body scope [] [] f fd) (S : FnScope N ps scope) (len : ∀ vs H Q E, sp vs H Q E → vs.length = ps.length)
    (hbody : ∀ (cdv : Value) (A : Around) (outer : List Env) (s : Shared) (H : Hp) (vs : List V) (Q : VK) (E : XK), Room k (A.deeper (envOfC qual scope s.heap.objs.size f cdv)) → sp vs H Q E →
      ∃ t, PSs (cxOf CX0 P w K mg base N qual scope f cdv A outer s H E).nox body t ∧ t { nx := fun _ H' => Q .non H', rt := Q } (start N vs) H) : FnOk P w K mg base CX0 (k + 1) f fd ps sp :=
  F.ok S len fun cdv A outer s H vs Q E hr h => by
    obtain ⟨t, h1, h2⟩ := hbody cdv A outer s H vs Q E hr h
    exact ⟨t, h1.nox, h2⟩
theorem conI {K : PySem.W.Frag} {h : Heap} {mg : Str → Option Value} {x : Str} {i : Int} (X : K.In h) (G : h.Ns mainGlobals mg) (c : (He.Fa.int x i).ok K = true) : ∃ u, mg x = some u ∧ RelV (.int i) u := by
  obtain ⟨t, e⟩ := He.int_ok X G c
  exact ⟨_, e, t, rfl⟩
theorem conS {K : PySem.W.Frag} {h : Heap} {mg : Str → Option Value} {x z : Str} (X : K.In h) (G : h.Ns mainGlobals mg) (c : (He.Fa.str x z).ok K = true) : ∃ u, mg x = some u ∧ RelV (.str z) u := by
  obtain ⟨t, e⟩ := He.str_ok X G c
  exact ⟨_, e, t, rfl⟩

/-! ### more readings -/
section
variable {σ : St} {H : Hp} {n b c : St → Hp → Prop} {r : VK} {Q : VK}
theorem r_cut {t u : TS} (Mid : St → Hp → Prop) (h1 : t ⟨Mid, r, b, c⟩ σ H) (h2 : ∀ σ' H', Mid σ' H' → u ⟨n, r, b, c⟩ σ' H') : tCut t u ⟨n, r, b, c⟩ σ H := ⟨Mid, h1, h2⟩
end
section
variable {σ : St} {H : Hp} {Q : VK} {K : PySem.W.Frag}
theorem r_yes {R : Bool → Hp → Prop} (h : R true H) : tYes σ H R := h
theorem r_isi {x : V} {c d : String} {b : Bool} (t : TyX K H x (.type d)) (e : kitB d c = some b) (h : Q (.bl b) H) : rIsi K [x, .ty c] H Q := ⟨x, .ty c, .type d, .type c, b, rfl, .ty c, t, kit_ty e, h⟩
theorem r_neD {x y : V} {d e : PyData} (h1 : Dp K H x d) (h2 : Dp K H y e) (s1 : SeqAt.shaped d = true) (s2 : SeqAt.shaped e = true) (h : Q (.bl (!PyData.eqv d e)) H) : rNeD K x y H Q := ⟨d, e, h1, h2, s1, s2, h⟩
theorem r_eqD {x y : V} {d e : PyData} (h1 : Dp K H x d) (h2 : Dp K H y e) (s1 : SeqAt.shaped d = true) (s2 : SeqAt.shaped e = true) (h : Q (.bl (PyData.eqv d e)) H) : rEqD K x y H Q := ⟨d, e, h1, h2, s1, s2, h⟩
theorem eqv_same {d : PyData} (s : SeqAt.shaped d = true) : PyData.eqv d d = true := SeqAt.eqv_refl d (Bool.and_eq_true_iff.mp s).1
/-- the same data on both sides -/
theorem r_neDs {x y : V} {d : PyData} (h1 : Dp K H x d) (h2 : Dp K H y d) (s : SeqAt.shaped d = true) (h : Q (.bl false) H) : rNeD K x y H Q := r_neD h1 h2 s s (by rw [eqv_same s]; exact h)
theorem r_eqDs {x y : V} {d : PyData} (h1 : Dp K H x d) (h2 : Dp K H y d) (s : SeqAt.shaped d = true) (h : Q (.bl true) H) : rEqD K x y H Q := r_eqD h1 h2 s s (by rw [eqv_same s]; exact h)
theorem r_rfl {v : V} {B : Prop} (h : B) : v = v ∧ B := ⟨rfl, h⟩
theorem r_gtup {p : Addr} {xs : List V} {n : Nat} {t : TGs} {R : St → Hp → Prop} (hs : SqT K H p xs) (hl : xs.length = n) (h : t xs σ H R) : gTup K n t (.ref p) σ H R := ⟨p, xs, rfl, hs, hl, h⟩
theorem r_gcons {t : TG} {u : TGs} {v : V} {vs : List V} {R : St → Hp → Prop} (h : t v σ H fun σ' H' => u vs σ' H' R) : gCons t u (v :: vs) σ H R := ⟨v, vs, rfl, h⟩
theorem r_gnil {R : St → Hp → Prop} (h : R σ H) : gNil [] σ H R := ⟨rfl, h⟩
theorem r_iteC {p : Prop} [Decidable p] {a b : Int} (h : Q (.int (if p then a else b)) H) : if decide p = true then tC (.int a) σ H Q else tC (.int b) σ H Q := by
  by_cases c : p
  · rw [if_pos (decide_eq_true c)]
    rw [if_pos c] at h
    exact h
  · rw [if_neg (by simp [c])]
    rw [if_neg c] at h
    exact h
theorem r_iteJ {p : Prop} [Decidable p] {ta tb : TE} (v : V) (h1 : p → ∀ R : VK, R v H → ta σ H R) (h2 : ¬ p → ∀ R : VK, R v H → tb σ H R) (h : Q v H) : if decide p = true then ta σ H Q else tb σ H Q := by
  by_cases c : p
  · rw [if_pos (decide_eq_true c)]
    exact h1 c Q h
  · rw [if_neg (by simp [c])]
    exact h2 c Q h
theorem r_max2 {p : Addr} {x y : Int} (hs : H p = some (.lst [.int x, .int y])) (h : Q (.int (max x y)) H) : rMax K [.ref p] H Q := by
  refine ⟨p, [x, y], rfl, SqL.of hs, by show 0 < 2; decide, fun m hm hle => ?_⟩
  have h1 := hle x (by simp)
  have h2 := hle y (by simp)
  have e : m = max x y := by
    rcases List.mem_cons.mp hm with e | e
    · omega
    · rcases List.mem_cons.mp e with e | e
      · omega
      · cases e
  rw [e]
  exact h
theorem r_lam1 {x : V} {R : V → Prop} (h : R x) : ∃ i, [x] = [i] ∧ R i := ⟨x, rfl, h⟩
theorem r_abs {x : Int} {R : Int → Prop} (h : R x) : ∃ i, [V.int x] = [V.int i] ∧ R i := ⟨x, rfl, h⟩
theorem r_int1 {x : Int} {R : Int → Prop} {B : Prop} (h : R x) : (∃ i, [V.int x] = [V.int i] ∧ R i) ∨ B := .inl ⟨x, rfl, h⟩
theorem r_bm {T : String} {r : V → List V → Hp → VK → Prop} {to : TE} {t : TA} (h : to σ H fun x H1 => tyV K T x H1 ∧ t σ H1 fun xs H2 => r x xs H2 Q) : tBM K T r to t σ H Q := h
theorem r_bm0 {T : String} {r : V → List V → Hp → VK → Prop} {to : TE} (h : to σ H fun x H1 => tyV K T x H1 ∧ r x [] H1 Q) : tBM0 K T r to σ H Q := h
theorem tyL {p : Addr} {xs : List V} (h : H p = some (.lst xs)) : tyV K "list" (.ref p) H := Or.inl ⟨rfl, _, SqL.of h⟩
theorem r_app {p : Addr} {xs : List V} {y : V} (h : H p = some (.lst xs)) (hl : xs.length < sizeLine) (q : Q .non (upd H p (.lst (xs ++ [y])))) : rAppend (.ref p) [y] H Q := ⟨p, xs, y, rfl, rfl, h, hl, q⟩
theorem r_sub {to ti : TE} {t : TSet} {v : V} {R : St → Hp → Prop} (h : to σ H fun o H1 => ti σ H1 fun i H2 => t o i v H2 fun H3 => R σ H3) : gSub to ti t v σ H R := h
theorem r_setL {p : Addr} {xs : List V} {k : Int} {j : Nat} {v : V} {R : Hp → Prop} (h : H p = some (.lst xs)) (e : ixN xs.length k = some j) (q : R (upd H p (.lst (xs.set j v)))) : rSetL (.ref p) (.int k) v H R := ⟨p, xs, k, j, rfl, rfl, h, e, q⟩
theorem r_lcR {ta : TA} {g : TG} {tt : TT} {te : TE} {vs : List Nat} (n : Nat) (hn : n < 2 ^ 62)
    (h : ∀ D, H D = none → ∃ W : Nat → Nat → Hp → Prop, (∃ m, W 0 m (upd H D (.lst []))) ∧ ∀ i m H, W i m H →
      ((Itr 0 n).stop i H ∧ Q (.ref D) H) ∨ ((Itr 0 n).go i H ∧ ∃ Nx : Hp → Prop, (∀ H', Nx H' → ∃ m', m' < m ∧ W (i + 1) m' H') ∧ ∀ x H', (Itr 0 n).yld i H x H' → g x (wipe σ vs) H' fun σ2 H2 => wipe σ2 vs = wipe σ vs ∧ tt σ2 H2 fun b H3 =>
        if b = true then te σ2 H3 fun y H4 => ∃ acc, H4 D = some (.lst acc) ∧ acc.length < sizeLine ∧ Nx (upd H4 D (.lst (acc ++ [y]))) else Nx H3))
    (he : ∀ R : List V → Hp → Prop, R [.int (n : Int)] H → ta σ H R) : tLc (iRng1 ta) g tt te vs σ H Q := by
  refine he _ ⟨(n : Int), rfl, by omega, by omega, ?_⟩
  have e : ((n : Int)).toNat = n := by omega
  rw [e]
  exact h
theorem same_upd {H : Hp} {p : Addr} (h : H p = none) (o : HO) : Same H (upd H p o) := fun b u q => by
  rw [upd_ne (ne_of_none q h)]
  exact q
theorem seq_upd {p b : Addr} {xs : List V} {o : HO} (h : SqL K H b xs) (hn : b ≠ p) : SqL K (upd H p o) b xs := by
  rcases h with (h | ⟨u, h⟩) | h
  · exact .inl (.inl ((upd_ne hn).trans h))
  · exact .inl (.inr ⟨u, (upd_ne hn).trans h⟩)
  · exact .inr h
theorem atI_ints {ns : List Int} {k : Int} (h0 : 0 ≤ k) (h1 : k < (ns.length : Int)) : ∃ v, v ∈ ns ∧ atI (ns.map V.int) k = some (.int v) := by
  have hk : k.toNat < ns.length := by omega
  have ek : k = ((k.toNat : Nat) : Int) := by omega
  have q : atI (ns.map V.int) ((k.toNat : Nat) : Int) = some (.int ns[k.toNat]) := atI_nat (by rw [List.getElem?_map, List.getElem?_eq_getElem hk] <;> rfl)
  rw [← ek] at q
  exact ⟨ns[k.toNat], List.getElem_mem hk, q⟩
end

/-! ### what the program's top leaves, looked at: its defs by their addresses, facts, written data; the statics too -/
abbrev Frg := PySem.W.Frag
/-- the getter of a property of a class -/
def prAd (C f : Str) (K : Frg) : Addr := match PySem.W.recIn K (He.ma K (He.ga K C) f) "property" with
  | some (.ref g :: _) => g
  | _ => 0
def glAd (x : Str) (K : Frg) : Addr := He.ga K x
def meAd (C m : Str) (K : Frg) : Addr := He.ma K (He.ga K C) m
structure DefM where
  ad : Frg → Addr
  nm : Str
  ql : Str
  pa : Arguments
  bo : List Stmt
  sc : Scope
  df : List He.Dv := []
def seeM (K : Frg) (d : DefM) : He.FnW := match K.lookup (d.ad K) with
  | some ⟨_, _, .func u, _⟩ => some (u.name, u.qualname, u.params, u.body, u.scope, u.globals, u.closure, u.builtins)
  | _ => none
def dueM (d : DefM) : He.FnW := some (d.nm, d.ql, d.pa, .stmts d.bo, d.sc, mainGlobals, [], builtinsNs)
def okM (K : Frg) (d : DefM) : Bool := PySem.W.keepIn K (.ref (d.ad K)) && (match K.lookup (d.ad K) with
  | some ⟨_, _, .func u, _⟩ => PySem.W.codeIn K u.code d.ql && He.dflB K u.defaults (d.df.map (He.Dv.v K))
  | _ => false)
theorem both {a b : Bool} (h : (a && b) = true) : a = true ∧ b = true := Bool.and_eq_true_iff.mp h
theorem funM {K : Frg} {d : DefM} (e : seeM K d = dueM d) (c : okM K d = true) : ∃ fd, FunD K d.nm d.ql d.pa d.bo d.sc (d.df.map (He.Dv.v K)) [] (d.ad K) fd := by
  have kp := (both c).1
  have c2 := (both c).2
  unfold seeM dueM at e
  split at c2
  · rename_i x1 x2 u x3 hL
    rw [hL] at e
    obtain ⟨n1, n2, n3, n4, n5, n6, n7, n8, n9, n10, n11, n12, n13, n14, n15⟩ := u
    simp only [Option.some.injEq, Prod.mk.injEq] at e
    obtain ⟨h1, h2, h3, h4, h5, h6, h7, h8⟩ := e
    subst h1 h2 h3 h4 h5 h6 h7 h8
    have k := both c2
    exact ⟨_, ⟨x1, x2, n8, n9, n10, n11, n12, n13, n14, x3, rfl, hL, k.1, He.dflB_ok k.2, .inl rfl⟩, kp⟩
  · cases c2
/-- written data: none, truths, integers, texts, lists and tuples of them -/
def datB (K : Frg) : Nat → Value → PyData → Bool
  | 0, _, _ => false
  | n + 1, u, d => match u, d with
    | .none, .none => true
    | .bool b, .bool c => b == c
    | .int i _, .int j => decide (i = j)
    | .str x _, .str y => decide (x = y)
    | .ref a, .tuple ds => (match K.lookup a with
      | some ⟨.type c, _, .seq its _, _⟩ => decide (c = "tuple") && (decide (its.size ≤ sizeLine) && datAll (fun u d => datB K n u d) its.toList ds)
      | _ => false)
    | _, _ => false
where datAll (f : Value → PyData → Bool) : List Value → List PyData → Bool
  | [], [] => true
  | u :: us, d :: ds => f u d && datAll f us ds
  | _, _ => false
theorem datAll_ok {K : Frg} {f : Value → PyData → Bool} (hf : ∀ u d, f u d = true → ∃ x, RelV x u ∧ ∀ H, Dp K H x d) : ∀ (us : List Value) (ds : List PyData), datB.datAll f us ds = true → ∃ xs, Vals xs us ∧ ∀ H, DpAll K H xs ds
  | [], [], _ => ⟨[], .nil, fun _ => .nil⟩
  | u :: us, d :: ds, h => by
    unfold datB.datAll at h
    obtain ⟨x, r, k⟩ := hf u d (both h).1
    obtain ⟨xs, rs, ks⟩ := datAll_ok hf us ds (both h).2
    exact ⟨x :: xs, .cons r rs, fun H => .cons (k H) (ks H)⟩
  | [], _ :: _, h => by cases h
  | _ :: _, [], h => by cases h
theorem datB_ok {K : Frg} : ∀ (n : Nat) (u : Value) (d : PyData), datB K n u d = true → ∃ x, RelV x u ∧ ∀ H, Dp K H x d
  | 0, _, _, h => by cases h
  | n + 1, u, d, h => by
    unfold datB at h
    match u, d, h with
    | .none, .none, _ => exact ⟨.non, rfl, fun _ => .non⟩
    | .bool b, .bool c, h =>
      have e : b = c := eq_of_beq h
      subst e
      exact ⟨.bl b, rfl, fun _ => .bl b⟩
    | .int i t, .int j, h =>
      have e : i = j := of_decide_eq_true h
      subst e
      exact ⟨.int i, ⟨t, rfl⟩, fun _ => .int i⟩
    | .str x t, .str y, h =>
      have e : x = y := of_decide_eq_true h
      subst e
      exact ⟨.str x, ⟨t, rfl⟩, fun _ => .str x⟩
    | .ref a, .tuple ds, h =>
      have h' : (match K.lookup a with
        | some ⟨.type c, _, .seq its _, _⟩ => decide (c = "tuple") && (decide (its.size ≤ sizeLine) && datB.datAll (fun u d => datB K n u d) its.toList ds)
        | _ => false) = true := h
      split at h'
      · rename_i c x2 its m x3 hL
        have h1 := (both h').1
        have h2 := (both (both h').2).1
        obtain ⟨xs, rs, ks⟩ := datAll_ok (datB_ok n) its.toList ds (both (both h').2).2
        exact ⟨.ref a, rfl, fun H => .tup (.inr ⟨_, its, m, hL, congrArg Value.type (of_decide_eq_true h1), rfl, of_decide_eq_true h2, rs⟩) (ks H)⟩
      · cases h'
/-- a name of the module that stands for such data -/
def conB (K : Frg) (x : Str) (d : PyData) : Bool := match PySem.W.nsIn K mainGlobals x with
  | some (some u) => datB K 8 u d
  | _ => false
theorem conM {K : Frg} {h : Heap} {mg : Str → Option Value} {x : Str} {d : PyData} (X : K.In h) (G : h.Ns mainGlobals mg) (c : conB K x d = true) : ∃ v u, mg x = some u ∧ RelV v u ∧ ∀ H, Dp K H v d := by
  unfold conB at c
  split at c
  · rename_i u hL
    obtain ⟨v, r, k⟩ := datB_ok 8 u d c
    exact ⟨v, u, PySem.W.mg_of X G hL, r, k⟩
  · cases c
/-- a property of a class -/
def prB (K : Frg) (C f : Str) : Bool := He.eqO (PySem.W.findIn K (.ref (He.ga K C)) f) (some (some (.ref (He.ma K (He.ga K C) f)))) &&
  (He.eqO (PySem.W.specialIn K (.ref (He.ma K (He.ga K C) f)) "__get__") (some (some (.builtin "property.__get__"))) && (decide (PySem.W.takesIn K (.ref (He.ma K (He.ga K C) f)) = some true) &&
  (match PySem.W.recIn K (He.ma K (He.ga K C) f) "property" with
    | some (.ref _ :: _) => true
    | _ => false)))
theorem prM {K : Frg} {C f : Str} (h : prB K C f = true) : PropOf K (He.ga K C) f (He.ma K (He.ga K C) f) (prAd C f K) := by
  obtain ⟨h1, h⟩ := both h
  obtain ⟨h2, h⟩ := both h
  obtain ⟨h3, h4⟩ := both h
  refine ⟨He.eqO_ok h1, He.eqO_ok h2, of_decide_eq_true h3, ?_⟩
  unfold prAd
  split at h4
  · rename_i g r hL
    rw [hL]
    exact ⟨r, rfl⟩
  · cases h4
/-- no limit of digits is set -/
def digB (K : Frg) : Bool := PySem.W.nsOkIn K cStatics && He.eqO (PySem.W.nsIn K cStatics "sys.int_max_str_digits") (some none)
def DigK (K : Frg) : Prop := PySem.W.nsOkIn K cStatics = true ∧ PySem.W.nsIn K cStatics "sys.int_max_str_digits" = some none
theorem digK_ok {K : Frg} (h : digB K = true) : DigK K := ⟨(both h).1, He.eqO_ok (both h).2⟩
/-! the Hook -/
abbrev AlM : Type := Bool × List He.FnW
def frM (n : Nat) (g : Addr → Option Obj) : Frg := He.frG g (cStatics :: He.asD g n)
def obsM (fa : List He.Fa) (ex : Frg → Bool) (fn : List DefM) (K : Frg) : AlM := ((fa.all fun x => x.ok K) && (ex K && fn.all fun d => okM K d), fn.map fun d => seeM K d)
def valM (fn : List DefM) : AlM := (true, fn.map dueM)
def SaysM (fa : List He.Fa) (ex : Frg → Bool) (fn : List DefM) (K : Frg) : Prop := obsM fa ex fn K = valM fn
def hookM (n : Nat) (fa : List He.Fa) (ex : Frg → Bool) (fn : List DefM) : PySem.W.Hook where
  α := AlM
  obs := fun s => obsM fa ex fn (frM n s.heap.get?)
  val := fun _ => valM fn
  says := fun _ h => ∃ K : Frg, K.In h ∧ SaysM fa ex fn K
  of := fun _ _ e => ⟨_, He.frG_in, e⟩
  keeps := fun _ _ _ ⟨K, hK, c⟩ k => ⟨K, PySem.W.Frag.In.keeps hK k, c⟩
theorem obsM_eq {n : Nat} {fa : List He.Fa} {ex : Frg → Bool} {fn : List DefM} {g : Addr → Option Obj} {s : Shared} (h : ∀ a, g a = s.heap.get? a) : obsM fa ex fn (frM n g) = (hookM n fa ex fn).obs s := by
  have e : g = s.heap.get? := funext h
  subst e
  rfl
section
variable {fa : List He.Fa} {ex : Frg → Bool} {fn : List DefM} {K : Frg}
theorem SaysM.fact (c : SaysM fa ex fn K) (i : Nat) {x : He.Fa} (h : fa[i]? = some x) : x.ok K = true :=
  List.all_eq_true.mp (both (congrArg Prod.fst c : ((fa.all fun x => x.ok K) && (ex K && fn.all fun d => okM K d)) = true)).1 x (List.mem_of_getElem? h)
theorem SaysM.more (c : SaysM fa ex fn K) : ex K = true := (both (both (congrArg Prod.fst c : ((fa.all fun x => x.ok K) && (ex K && fn.all fun d => okM K d)) = true)).2).1
theorem SaysM.def_ (c : SaysM fa ex fn K) (i : Nat) {d : DefM} (h : fn[i]? = some d) : ∃ fd, FunD K d.nm d.ql d.pa d.bo d.sc (d.df.map (He.Dv.v K)) [] (d.ad K) fd := by
  have c2 := (both (both (congrArg Prod.fst c : ((fa.all fun x => x.ok K) && (ex K && fn.all fun d => okM K d)) = true)).2).2
  have e2 : (fn.map fun d => seeM K d)[i]? = (fn.map dueM)[i]? := congrArg (fun z : AlM => z.2[i]?) c
  simp only [List.getElem?_map, h, Option.map_some, Option.some.injEq] at e2
  exact funM e2 (List.all_eq_true.mp c2 d (List.mem_of_getElem? h))
end

/-! ### a dict that the module's top writes: keys integers and texts -/
section
open PySem PySem.Spec PyProof.Rows L2
def TabAt (K : PySem.W.Frag) (w : World) (a : Addr) (kvs : List (Key × V)) : Prop := (a == sysModules) = false ∧ ∃ vs : List (Key × Value), KV kvs vs ∧ ∀ (P : Program) (h : Heap), K.In h → h.DictOf (mixKind P w) a vs
def tKGet (K : PySem.W.Frag) (w : World) (td ty tx : TE) : TE := fun σ H Q => td σ H fun x H1 => ∃ a kvs, x = .ref a ∧ TabAt K w a kvs ∧ ty σ H1 fun y H2 => tx σ H2 fun z H3 => ∃ k, y = kV k ∧ Q ((valV kvs k).getD z) H3
def tKIx (K : PySem.W.Frag) (w : World) (td ty : TE) : TE := fun σ H Q => td σ H fun x H1 => ty σ H1 fun y H2 => ∃ a kvs k v, x = .ref a ∧ TabAt K w a kvs ∧ y = kV k ∧ valV kvs k = some v ∧ Q v H2
def tKIn (K : PySem.W.Frag) (w : World) (ty td : TE) : TE := fun σ H Q => ty σ H fun y H1 => td σ H1 fun x H2 => ∃ a kvs k, x = .ref a ∧ TabAt K w a kvs ∧ y = kV k ∧ Q (.bl (valV kvs k).isSome) H2
section
variable {X : Cx} {o e f : Expr} {apos cpos : Pos} {td ty tx : TE}
theorem dictOf_free {P : Program} {w : World} {h : Heap} {a : Addr} {vs : List (Key × Value)} (d : h.DictOf (mixKind P w) a vs) : ∃ ob, h.get? a = some ob ∧ ob.dict = none := by
  obtain ⟨ob, _, _, h1, h2, _⟩ := d
  exact ⟨ob, h1, h2.2.1⟩
theorem pe_kget2 (ho : PE X o td) (he : PE X e ty) (hf : PE X f tx) (m : M2 X o "get" apos e f cpos) : PE X (.Call (.Attribute o "get" apos) [e, f] [] cpos) (tKGet X.K X.w td ty tx) := by
  refine ⟨fun pins s σ H Q I h => ?_⟩
  refine wpAny_Call_method m.base m.few m.line PySem.F.plainAttrs_dict PySem.F.slot_dict_get PySem.F.type_dict_get (thn (ho.run pins s σ H _ I h) fun u s1 ⟨x, H1, I1, rx, a, kvs, ex, ⟨hd, vs, rel, dd⟩, q1⟩ => ?_)
  subst ex
  obtain rfl : u = Value.ref a := rx
  have d1 := dd X.prog s1.heap I1.kIn
  refine ⟨d1.typeIs, fun b q => ?_, ?_⟩
  · cases q
    exact dictOf_free d1
  rw [m.trees]
  refine Calls.callWith_builtin rfl (Calls.evalArgs_plain (Calls.spliced_cons (thn (he.run pins s1 σ H1 _ I1 q1) fun iv s2 ⟨y, H2, I2, ry, q2⟩ =>
    Calls.spliced_cons (thn (hf.run pins s2 σ H2 _ I2 q2) fun fv s3 ⟨z, H3, I3, rz, k, ey, q3⟩ => Calls.spliced_nil ?_))))
  subst ey
  have d3 := dd X.prog s3.heap I3.kIn
  refine call_meetsIn PySem.F.slot_dict_get d3.typeIs PySem.F.entry_dict_get (PySem.F.args_dict_get_3 _ _ _) (meets_dict_get_default (mixKind X.prog X.w) a (kV_is ry) hd fv) ⟨_, d3.mapOf, ⟨_, H3, I3.tok _, ?_, q3⟩⟩
  exact (rel.val k).getD rz
theorem pe_kix (ho : PE X o td) (hi : PE X e ty) (hs : NoSl e) : PE X (.Subscript o e cpos) (tKIx X.K X.w td ty) := by
  refine ⟨fun pins s σ H Q I h => ?_⟩
  refine subD_of PySem.F.slot_dict_getitem.lookup hs (thn (ho.run pins s σ H _ I h) fun u s1 ⟨x, H1, I1, rx, q1⟩ => thn (hi.run pins s1 σ H1 _ I1 q1) fun iv s2 ⟨y, H2, I2, ry, a, kvs, k, v, ex, ⟨hd, vs, rel, dd⟩, ey, l, q2⟩ => ?_)
  subst ex
  subst ey
  obtain rfl : u = Value.ref a := rx
  have d2 := dd X.prog s2.heap I2.kIn
  obtain ⟨w', hw, rw'⟩ := RelO.some_of (v := v) (o := valueAt vs k) (by rw [← l]; exact rel.val k)
  exact ⟨d2.typeIs, wpAny_getItem_of (kV_is ry) d2.mapOf hw ⟨v, H2, I2.tok _, rw', q2⟩⟩
theorem pc_kin (hi : PE X e ty) (ho : PE X o td) : PC X .In e o (tKIn X.K X.w ty td) := by
  refine ⟨fun pins s σ H Q I h => ?_⟩
  refine thn (hi.run pins s σ H _ I h) fun iv s1 ⟨y, H1, I1, ry, q1⟩ => thn (ho.run pins s1 σ H1 _ I1 q1) fun u s2 ⟨x, H2, I2, rx, a, kvs, k, ex, ⟨hd, vs, rel, dd⟩, ey, q2⟩ => ?_
  subst ex
  subst ey
  obtain rfl : u = Value.ref a := rx
  have d2 := dd X.prog s2.heap I2.kIn
  refine wpAny_in_of (kV_is ry) hd d2.mapOf ?_
  rw [← (rel.val k).isSome_eq]
  exact ⟨.bl _, H2, I2.tok _, rfl, q2⟩
end
/-! .. keys tuples of integers and texts -/
def KTk : List (List Key × V) → List (List Key × Addr × Value) → Prop := Paired fun (p : List Key × V) (q : List Key × Addr × Value) => p.1 = q.1 ∧ RelV p.2 q.2.2
theorem KTk.val {kvs : List (List Key × V)} {xs : List (List Key × Addr × Value)} (r : KTk kvs xs) (k : List Key) : RelO (valV kvs k) ((atKey xs k).map (·.2)) := by
  induction r with
  | nil => exact True.intro
  | @cons p q ps qs h t ih =>
    obtain ⟨h1, h2⟩ := h
    by_cases e : p.1 = k
    · have e' : q.1 = k := h1.symm.trans e
      have b : atKey (q :: qs) k = some q.2 := by simp [atKey, List.find?_cons, e']
      rw [valV_pos e, b]; exact h2
    · have e' : ¬ q.1 = k := fun z => e (h1.trans z)
      have b : atKey (q :: qs) k = atKey qs k := by simp [atKey, List.find?_cons, e']
      rw [valV_neg e, b]; exact ih
def TabTAt (K : PySem.W.Frag) (w : World) (a : Addr) (kvs : List (List Key × V)) : Prop := (a == sysModules) = false ∧ ∃ xs : List (List Key × Addr × Value), KTk kvs xs ∧ ∀ (P : Program) (h : Heap), K.In h → h.DictOfH (tupleKind (mixKind P w)) a xs
def tKGetT (K : PySem.W.Frag) (w : World) (td ty tx : TE) : TE := fun σ H Q => td σ H fun x H1 => ∃ a kvs, x = .ref a ∧ TabTAt K w a kvs ∧ ty σ H1 fun y H2 => tx σ H2 fun z H3 => ∃ b ks, y = .ref b ∧ H3 b = some (.tup (ks.map kV)) ∧ Q ((valV kvs ks).getD z) H3
section
variable {X : Cx} {o e f : Expr} {apos cpos : Pos} {td ty tx : TE}
theorem pe_kget2T (hu : X.A.units + 1 < cLine) (ho : PE X o td) (he : PE X e ty) (hf : PE X f tx) (m : M2 X o "get" apos e f cpos) : PE X (.Call (.Attribute o "get" apos) [e, f] [] cpos) (tKGetT X.K X.w td ty tx) := by
  refine ⟨fun pins s σ H Q I h => ?_⟩
  refine wpAny_Call_method m.base m.few m.line PySem.F.plainAttrs_dict PySem.F.slot_dict_get PySem.F.type_dict_get (thn (ho.run pins s σ H _ I h) fun u s1 ⟨x, H1, I1, rx, a, kvs, ex, ⟨hd, xs, rel, dd⟩, q1⟩ => ?_)
  subst ex
  obtain rfl : u = Value.ref a := rx
  have d1 := dd X.prog s1.heap I1.kIn
  refine ⟨d1.typeIs, fun b q => ?_, ?_⟩
  · cases q
    obtain ⟨ob, _, _, h1, h2, _⟩ := d1
    exact ⟨ob, h1, h2.2.1⟩
  rw [m.trees]
  refine Calls.callWith_builtin rfl (Calls.evalArgs_plain (Calls.spliced_cons (thn (he.run pins s1 σ H1 _ I1 q1) fun iv s2 ⟨y, H2, I2, ry, q2⟩ =>
    Calls.spliced_cons (thn (hf.run pins s2 σ H2 _ I2 q2) fun fv s3 ⟨z, H3, I3, rz, b, ks, ey, eb, q3⟩ => Calls.spliced_nil ?_))))
  subst ey
  obtain rfl : iv = Value.ref b := ry
  have d3 := dd X.prog s3.heap I3.kIn
  refine call_meetsIn PySem.F.slot_dict_get d3.typeIs PySem.F.entry_dict_get (PySem.F.args_dict_get_3 _ _ _) (meetsH_dict_get_default (tupleKind (mixKind X.prog X.w)) a b hd fv) ⟨tupleKind_room_in1 hu, ks, xs, key_of I3.hok eb, d3, ⟨_, H3, I3.tok _, ?_, q3⟩⟩
  exact (rel.val ks).getD rz
end
end
section
open PySem PySem.Spec PyProof.Rows L2
abbrev KeyX : Type := Sum Key (List Key)
def hashX (w : World) : KeyX → Int
  | .inl k => keyH w k
  | .inr ks => reduceHash (Builtin.Tuple.tupleHashOf (ks.map (keyH w)))
def keyV : Value → Option Key
  | .str x _ => some (.inr x)
  | .int i _ => some (.inl i)
  | _ => none
def keyL : List Value → Option (List Key)
  | [] => some []
  | v :: r => match keyV v, keyL r with
    | some k, some ks => some (k :: ks)
    | _, _ => none
def keyX (K : PySem.W.Frag) : Value → Option KeyX
  | .ref b => (match K.lookup b with
    | some ⟨.type c, _, .seq its _, _⟩ => (match decide (c = "tuple") with
      | true => (match keyL its.toList with
        | some ks => some (.inr ks)
        | none => none)
      | false => none)
    | _ => none)
  | v => (match keyV v with
    | some k => some (.inl k)
    | none => none)
def tabE (K : PySem.W.Frag) (e : DictEntry) : Option (KeyX × Int) := match keyX K e.key with
  | some k => some (k, e.hash)
  | none => none
def tabW (K : PySem.W.Frag) (a : Addr) : Option (List (Option (KeyX × Int))) := match K.lookup a with
  | some ⟨.type c, none, .dict es _, sl⟩ => (match decide (c = "dict") && (sl.isEmpty && !(a == sysModules)) with
    | true => some (es.toList.map (tabE K))
    | false => none)
  | _ => none
def keysX (w : World) (ks : List KeyX) : List (Option (KeyX × Int)) := ks.map fun k => some (k, hashX w k)
def relAllB : List V → List Value → Bool
  | [], [] => true
  | x :: xs, u :: us => He.relB x u && relAllB xs us
  | _, _ => false
def tabV (K : PySem.W.Frag) (a : Addr) (xs : List V) : Bool := match K.lookup a with
  | some ⟨_, _, .dict es _, _⟩ => relAllB xs (es.toList.map (·.val))
  | _ => false
theorem tabW_obj {K : PySem.W.Frag} {a : Addr} {l : List (Option (KeyX × Int))} (h : tabW K a = some l) : ∃ es n, K.lookup a = some ⟨.type "dict", none, .dict es n, #[]⟩ ∧ es.toList.map (tabE K) = l ∧ (a == sysModules) = false := by
  unfold tabW at h
  cases q : K.lookup a with
  | none =>
    rw [q] at h
    cases h
  | some o =>
    obtain ⟨oc, od, dt, osl⟩ := o
    rw [q] at h
    cases oc with
    | type c =>
      cases od with
      | none =>
        cases dt with
        | dict es n =>
          have h1 : (match decide (c = "dict") && (osl.isEmpty && !(a == sysModules)) with
            | true => some (es.toList.map (tabE K))
            | false => none) = some l := h
          cases z : decide (c = "dict") && (osl.isEmpty && !(a == sysModules)) with
          | false =>
            rw [z] at h1
            cases h1
          | true =>
            rw [z] at h1
            obtain ⟨z1, z2⟩ := both z
            obtain ⟨z3, z4⟩ := both z2
            have e1 : c = "dict" := of_decide_eq_true z1
            have e2 : osl = #[] := Array.isEmpty_iff.mp z3
            have e3 : (a == sysModules) = false := by
              cases y : a == sysModules with
              | false => rfl
              | true =>
                rw [y] at z4
                cases z4
            subst e1 e2
            exact ⟨es, n, rfl, Option.some.inj h1, e3⟩
        | _ => cases h
      | some b => cases dt <;> cases h
    | _ => cases od <;> cases dt <;> cases h
theorem keyV_is {v : Value} {k : Key} (h : keyV v = some k) : keyIs k v = true := by
  unfold keyV at h
  split at h
  · cases h
    exact keyIs_str _ _
  · cases h
    exact keyIs_int _ _
  · cases h
theorem keyX_inl {K : PySem.W.Frag} {v : Value} {k : Key} (h : keyX K v = some (.inl k)) : keyIs k v = true := by
  unfold keyX at h
  split at h
  · split at h
    · split at h
      · split at h <;> cases h
      · cases h
    · cases h
  · split at h
    · rename_i k0 q
      cases h
      exact keyV_is q
    · cases h
theorem keyX_inr {K : PySem.W.Frag} {v : Value} {ks : List Key} (h : keyX K v = some (.inr ks)) : ∃ (b : Addr) (o : Obj) (its : Array Value) (n : Nat), v = .ref b ∧ K.lookup b = some o ∧ o.cls = .type "tuple" ∧ o.data = .seq its n ∧ keyL its.toList = some ks := by
  unfold keyX at h
  split at h
  · rename_i b
    split at h
    · rename_i c d its n sl hL
      split at h
      · rename_i hc
        split at h
        · rename_i ks0 q
          cases h
          have hc : c = "tuple" := of_decide_eq_true hc
          subst hc
          exact ⟨_, _, its, n, rfl, hL, rfl, rfl, q⟩
        · cases h
      · cases h
    · cases h
  · split at h <;> cases h
theorem tabE_of {K : PySem.W.Frag} {e : DictEntry} {k : KeyX} {z : Int} (h : tabE K e = some (k, z)) : keyX K e.key = some k ∧ e.hash = z := by
  unfold tabE at h
  split at h
  · rename_i k0 q
    have h1 := Option.some.inj h
    obtain ⟨h2, h3⟩ := Prod.mk.inj h1
    exact ⟨by rw [q, h2], h3⟩
  · cases h
theorem kv_zip : ∀ (xs : List V) (us : List Value), relAllB xs us = true → ∀ {κ : Type} (ks : List κ), KV (ks.zip xs) (ks.zip us)
  | [], [], _, _, ks => by
    cases ks <;> exact .nil
  | x :: xs, u :: us, h, _, [] => .nil
  | x :: xs, u :: us, h, _, k :: ks => .cons ⟨rfl, He.relB_ok (both h).1⟩ (kv_zip xs us (both h).2 ks)
  | [], _ :: _, h, _, _ => by cases h
  | _ :: _, [], h, _, _ => by cases h
theorem tab_pairs {P : Program} {w : World} {K : PySem.W.Frag} : ∀ (l : List DictEntry) (ks : List Key), l.map (tabE K) = keysX w (ks.map .inl) →
    Pairs (mixKind P w) l (ks.zip (l.map (·.val))) ∧ (∀ e ∈ l, ∃ k, (mixKind P w).is k e.key = true ∧ e.hash = (mixKind P w).hash k) ∧ l.length = ks.length
  | [], [], _ => ⟨.nil, fun _ h => absurd h (by simp), rfl⟩
  | [], _ :: _, h => by cases h
  | _ :: _, [], h => by cases h
  | e :: l, k :: ks, h => by
    have h1 : tabE K e :: l.map (tabE K) = some (.inl k, hashX w (.inl k)) :: keysX w (ks.map .inl) := h
    injection h1 with h2 h3
    obtain ⟨a1, a2⟩ := tabE_of h2
    have a1 := keyX_inl a1
    obtain ⟨p1, p2, p3⟩ := tab_pairs (P := P) l ks h3
    refine ⟨.cons a1 rfl p1, fun x hx => ?_, congrArg (· + 1) p3⟩
    rcases List.mem_cons.mp hx with q | q
    · rw [q]
      exact ⟨k, a1, a2⟩
    · exact p2 x q
theorem fst_zip {α β : Type} : ∀ (ks : List α) (us : List β), us.length = ks.length → (ks.zip us).map (·.1) = ks
  | [], _, _ => by simp
  | k :: ks, [], h => by cases h
  | k :: ks, u :: us, h => by
    show k :: (ks.zip us).map (·.1) = k :: ks
    rw [fst_zip ks us (Nat.succ.inj h)]
theorem tab_ok {w : World} {K : PySem.W.Frag} {a : Addr} {ks : List Key} {xs : List V} (h : tabW K a = some (keysX w (ks.map .inl))) (hv : tabV K a xs = true) (nd : ks.Nodup) : TabAt K w a (ks.zip xs) := by
  obtain ⟨es, n, hK, he, hs⟩ := tabW_obj h
  unfold tabV at hv
  rw [hK] at hv
  have hv : relAllB xs (es.toList.map (·.val)) = true := hv
  refine ⟨hs, ks.zip (es.toList.map (·.val)), kv_zip _ _ hv ks, fun P hp hin => ?_⟩
  obtain ⟨p1, p2, p3⟩ := tab_pairs (P := P) es.toList ks he
  refine ⟨_, es, n, hin a _ hK, ⟨rfl, rfl, rfl⟩, rfl, fun e hm => p2 e (Array.mem_toList_iff.mpr hm), p1, ?_⟩
  rw [fst_zip _ _ (by rw [List.length_map]; exact p3)]
  exact nd
theorem keyL_are {P : Program} {w : World} : ∀ (l : List Value) (ks : List Key), keyL l = some ks → ItemsAre (mixKind P w) ks l
  | [], ks, h => by
    cases h
    exact .nil
  | v :: l, ks, h => by
    unfold keyL at h
    split at h
    · rename_i k ks0 q1 q2
      cases h
      exact .cons (keyV_is q1) (keyL_are l _ q2)
    · cases h
theorem tab_ents {P : Program} {w : World} {K : PySem.W.Frag} : ∀ (l : List DictEntry) (ks : List (List Key)) (ys : List V), l.map (tabE K) = keysX w (ks.map .inr) → relAllB ys (l.map (·.val)) = true →
    ∃ xs : List (List Key × Addr × Value), l = xs.map (entryOfKey (tupleKind (mixKind P w))) ∧ (∀ x ∈ xs, ∃ (o : Obj) (its : Array Value) (n : Nat), K.lookup x.2.1 = some o ∧ o.cls = .type "tuple" ∧ o.data = .seq its n ∧ keyL its.toList = some x.1) ∧ xs.map (·.1) = ks ∧ KTk (ks.zip ys) xs
  | [], [], [], _, _ => ⟨[], rfl, fun _ h => absurd h (by simp), rfl, .nil⟩
  | [], [], _ :: _, _, h => by cases h
  | [], _ :: _, _, h, _ => by cases h
  | _ :: _, [], _, h, _ => by cases h
  | _ :: _, _ :: _, [], _, h => by cases h
  | e :: l, k :: ks, y :: ys, h, hv => by
    have h1 : tabE K e :: l.map (tabE K) = some (.inr k, hashX w (.inr k)) :: keysX w (ks.map .inr) := h
    injection h1 with h2 h3
    obtain ⟨a1, a2⟩ := tabE_of h2
    obtain ⟨b, o, its, n, c1, c2, c3, c4, c5⟩ := keyX_inr a1
    have hv : (He.relB y e.val && relAllB ys (l.map (·.val))) = true := hv
    obtain ⟨xs, d1, d2, d3, d4⟩ := tab_ents (P := P) l ks ys h3 (both hv).2
    refine ⟨(k, b, e.val) :: xs, ?_, fun x hx => ?_, congrArg (k :: ·) d3, .cons ⟨rfl, He.relB_ok (both hv).1⟩ d4⟩
    · obtain ⟨eh, ek, ev⟩ := e
      have c1 : ek = .ref b := c1
      have a2 : eh = hashX w (.inr k) := a2
      rw [c1, a2, d1]
      rfl
    · rcases List.mem_cons.mp hx with q | q
      · rw [q]
        exact ⟨o, its, n, c2, c3, c4, c5⟩
      · exact d2 x q
theorem tab_okT {w : World} {K : PySem.W.Frag} {a : Addr} {ks : List (List Key)} {ys : List V} (h : tabW K a = some (keysX w (ks.map .inr))) (hv : tabV K a ys = true) (nd : ks.Nodup) : TabTAt K w a (ks.zip ys) := by
  obtain ⟨es, n, hK, he, hs⟩ := tabW_obj h
  unfold tabV at hv
  rw [hK] at hv
  have hv : relAllB ys (es.toList.map (·.val)) = true := hv
  obtain ⟨xs, d1, d2, d3, d4⟩ := tab_ents (P := default) es.toList ks ys he hv
  refine ⟨hs, xs, d4, fun P hp hin => ⟨_, es, n, hin a _ hK, ⟨rfl, rfl, rfl⟩, rfl, d1, fun x hx => ?_, by rw [d3]; exact nd⟩⟩
  obtain ⟨o, its, m, c1, c2, c3, c4⟩ := d2 x hx
  exact ⟨o, its, m, hin _ _ c1, c2, c3, keyL_are _ _ c4⟩
end

/-! ### the Hook with such dicts -/
abbrev TabX : Type := Str × List KeyX
abbrev AlX : Type := AlM × List (Option (List (Option (KeyX × Int))))
def obsX (fa : List He.Fa) (ex : Frg → Bool) (fn : List DefM) (ts : List TabX) (K : Frg) : AlX := (obsM fa ex fn K, ts.map fun t => tabW K (He.ga K t.1))
def valX (fn : List DefM) (ts : List TabX) (w : World) : AlX := (valM fn, ts.map fun t => some (keysX w t.2))
def SaysX (fa : List He.Fa) (ex : Frg → Bool) (fn : List DefM) (ts : List TabX) (w : World) (K : Frg) : Prop := obsX fa ex fn ts K = valX fn ts w
def hookX (n : Nat) (fa : List He.Fa) (ex : Frg → Bool) (fn : List DefM) (ts : List TabX) : PySem.W.Hook where
  α := AlX
  obs := fun s => obsX fa ex fn ts (frM n s.heap.get?)
  val := fun w => valX fn ts w
  says := fun w h => ∃ K : Frg, K.In h ∧ SaysX fa ex fn ts w K
  of := fun _ _ e => ⟨_, He.frG_in, e⟩
  keeps := fun _ _ _ ⟨K, hK, c⟩ k => ⟨K, PySem.W.Frag.In.keeps hK k, c⟩
theorem obsX_eq {n : Nat} {fa : List He.Fa} {ex : Frg → Bool} {fn : List DefM} {ts : List TabX} {g : Addr → Option Obj} {s : Shared} (h : ∀ a, g a = s.heap.get? a) : obsX fa ex fn ts (frM n g) = (hookX n fa ex fn ts).obs s := by
  have e : g = s.heap.get? := funext h
  subst e
  rfl
section
variable {fa : List He.Fa} {ex : Frg → Bool} {fn : List DefM} {ts : List TabX} {w : World} {K : Frg}
theorem SaysX.m (c : SaysX fa ex fn ts w K) : SaysM fa ex fn K := congrArg (fun z : AlX => z.1) c
theorem SaysX.tab (c : SaysX fa ex fn ts w K) (i : Nat) {t : TabX} (h : ts[i]? = some t) : tabW K (He.ga K t.1) = some (keysX w t.2) := by
  have e : ts.map (fun t => tabW K (He.ga K t.1)) = ts.map fun t => some (keysX w t.2) := congrArg (fun z : AlX => z.2) c
  have e2 : (ts.map fun t => tabW K (He.ga K t.1))[i]? = (ts.map fun t => some (keysX w t.2))[i]? := by rw [e]
  rw [List.getElem?_map, List.getElem?_map, h] at e2
  exact Option.some.inj e2
end
/-! ### a display of a dict asks the world one thing: both answers are run -/
def setF (w : World) (b : Bool) : World := { w with params := { w.params with followText := fun x => if x = "special-get-raises" then b else w.params.followText x } }
theorem setF_eq (w : World) : setF w (w.params.followText "special-get-raises") = w := by
  have e : (fun x => if x = "special-get-raises" then w.params.followText "special-get-raises" else w.params.followText x) = w.params.followText := by
    funext x
    by_cases h : x = "special-get-raises"
    · rw [if_pos h, h]
    · rw [if_neg h]
  show ({ w with params := { w.params with followText := fun x => if x = "special-get-raises" then w.params.followText "special-get-raises" else w.params.followText x } } : World) = w
  rw [e]

/-! ### own exceptions with one field; defs that raise -/
def oexB (K : Frg) (C : Addr) : Bool := match K.lookup C with
  | some ⟨.type t, _, .cls cd, sl⟩ => decide (t = "type") && (match cd.mro, sl.toList with
    | .ref c :: bm, [_, _, _, _, some (.builtin n), _] => decide (c = C) && (decide (n = "ValueError.__new__") && (!cd.hasDel && (cd.hasDict && PySem.HandSPX.refsVE bm)))
    | _, _ => false)
  | _ => false
theorem oexM {K : Frg} {C : Addr} (h : oexB K C = true) : ∃ nm q N bs bm sn sub ab col dd k0 k1 k2 k3 k5, K.lookup C = some (excClassObj nm q C N bs bm true sn sub ab col dd k0 k1 k2 k3 k5 "ValueError.__new__") ∧ PySem.HandSPX.refsVE bm = true := by
  unfold oexB at h
  split at h
  · rename_i t dd cd sl ho
    obtain ⟨h1, h⟩ := both h
    have h1 : t = "type" := of_decide_eq_true h1
    split at h
    · rename_i c bm k0 k1 k2 k3 n k5 hm hs
      obtain ⟨h2, h⟩ := both h
      obtain ⟨h3, h⟩ := both h
      obtain ⟨h4, h⟩ := both h
      obtain ⟨h5, h6⟩ := both h
      have h2 : c = C := of_decide_eq_true h2
      have h3 : n = "ValueError.__new__" := of_decide_eq_true h3
      obtain ⟨nm, bs, mro, ns, qn, hd, sn, sub, ab, col, del⟩ := cd
      dsimp only at hm h4 h5
      have h4 : del = false := by cases del <;> first | rfl | cases h4
      subst hm h4 h5 h1 h2 h3
      have hsl : sl = #[k0, k1, k2, k3, some (.builtin "ValueError.__new__"), k5] := by
        obtain ⟨l⟩ := sl
        simp only at hs
        rw [hs]
      subst hsl
      exact ⟨nm, qn, ns, bs, bm, sn, sub, ab, col, dd, k0, k1, k2, k3, k5, ho, h6⟩
    · cases h
  · cases h
/-- the class at C may be raised with one field f; its __init__ stands at fI -/
structure ExcK (K : Frg) (C fI : Addr) (f : Str) : Prop where
  oex : OexC K C
  ini : PySem.W.findIn K (.ref C) "__init__" = some (some (.ref fI))
  tI : PySem.W.typeIn K (.ref fI) = some (.type "function")
  no : PySem.W.findIn K (.ref C) f = some none
  xf : XfC K C
  te : PySem.W.exmOne K (.ref C) (.ref C) = some true
def exkB (K : Frg) (C fI : Addr) (f : Str) : Bool := oexB K C && (He.eqO (PySem.W.findIn K (.ref C) "__setattr__") (some (some (.builtin "object.__setattr__"))) && (decide (PySem.W.subIn K (.ref C) (.type "BaseException") = some true) &&
  (decide (PySem.W.typeIn K (.ref C) = some (.type "type")) && (PySem.W.keepIn K (.ref C) && (He.eqO (PySem.W.findIn K (.ref C) "__init__") (some (some (.ref fI))) && (decide (PySem.W.typeIn K (.ref fI) = some (.type "function")) &&
  (He.eqO (PySem.W.findIn K (.ref C) f) (some none) && (xfB K C && decide (PySem.W.exmOne K (.ref C) (.ref C) = some true)))))))))
theorem exkM {K : Frg} {C fI : Addr} {f : Str} (h : exkB K C fI f = true) : ExcK K C fI f := by
  obtain ⟨h1, h⟩ := both h
  obtain ⟨h2, h⟩ := both h
  obtain ⟨h3, h⟩ := both h
  obtain ⟨h4, h⟩ := both h
  obtain ⟨h5, h⟩ := both h
  obtain ⟨h6, h⟩ := both h
  obtain ⟨h7, h⟩ := both h
  obtain ⟨h8, h⟩ := both h
  obtain ⟨h9, h10⟩ := both h
  exact ⟨⟨oexM h1, He.eqO_ok h2, of_decide_eq_true h3, of_decide_eq_true h4, h5⟩, He.eqO_ok h6, of_decide_eq_true h7, He.eqO_ok h8, xfB_ok h9, of_decide_eq_true h10⟩
/-- __init__(self, f): self.f = f -/
def spExc (K : Frg) (f : Str) : Sp := fun vs H Q _ => ∃ (a C : Addr) (v : V), vs = [.ref a, v] ∧ OexC K C ∧ PySem.W.findIn K (.ref C) f = some none ∧ H a = some (exo a C none) ∧
  ∀ dx, H dx = none → dx ≠ a → Q .non (upd (upd H dx (exd dx [(f, v)])) a (exo a C (some dx)))
/-- an exception class of this name, ready to be raised -/
structure Raz (P : Program) (w : World) (K : Frg) (mg : Str → Option Value) (base : Heap) (x : Str) (C : Addr) (f : Str) : Prop where
  ex : ∃ (fI : Addr) (fd : FuncData), ExcK K C fI f ∧ mg x = some (.ref C) ∧ FnOk P w K mg base CX0 1 fI fd ["self", f] (spExc K f) ∧ Binds K fd ["self", f] []
/-- a def that may raise -/
structure CalX (P : Program) (w : World) (K : Frg) (mg : Str → Option Value) (base : Heap) (k : Nat) (x : Str) (sp : Sp) : Prop where
  ex : ∃ (f : Addr) (fd : FuncData) (ps : List Str), FnOk P w K mg base (L2.CX P w) k f fd ps sp ∧ mg x = some (.ref f) ∧ PySem.W.keepIn K (.ref f) = true ∧ Binds K fd ps []
/-- .. a method -/
structure MetX (P : Program) (w : World) (K : Frg) (mg : Str → Option Value) (base : Heap) (k : Nat) (C : Addr) (m : Str) (sp : Sp) : Prop where
  ex : ∃ (f : Addr) (fd : FuncData) (ps : List Str), Cls K C ∧ Meth K C m f ∧ FnOk P w K mg base (L2.CX P w) k f fd ps sp ∧ Binds K fd ps []
section
variable {P : Program} {w : World} {K : Frg} {mg : Str → Option Value} {base : Heap} {x qual : Str} {params : Arguments} {body : List Stmt} {scope : Scope} {f : Addr} {fd : FuncData} {N ps : List Str} {k : Nat} {sp : Sp} {C : Addr}
theorem calXD (F : FunD K x qual params body scope [] [] f fd) (m : mg x = some (.ref f)) (S : FnScope N ps scope)
    (hb : ∀ (kV doc pm : Value) (an : Option Addr) (cdv ct : Value) (us : List Value), us.length = ps.length → bindArgs (PySem.W.fnOf x qual params body scope .none kV doc pm an cdv ct) ⟨us, []⟩ = pure (ps.zip us))
    (len : ∀ vs H Q E, sp vs H Q E → vs.length = ps.length)
    (hbody : ∀ (cdv : Value) (A : Around) (outer : List Env) (s : Shared) (H : Hp) (vs : List V) (Q : VK) (E : XK), Room k (A.deeper (envOfC qual scope s.heap.objs.size f cdv)) → sp vs H Q E →
      ∃ t, PSs (cxOf (L2.CX P w) P w K mg base N qual scope f cdv A outer s H E) body t ∧ t { nx := fun _ H' => Q .non H', rt := Q } (start N vs) H) : CalX P w K mg base (k + 1) x sp :=
  ⟨f, fd, ps, F.ok S len hbody, m, F.kp, F.bindsN hb⟩
theorem metXD (F : FunD K x qual params body scope [] [] f fd) (cl : Cls K C) (me : Meth K C x f) (S : FnScope N ps scope)
    (hb : ∀ (kV doc pm : Value) (an : Option Addr) (cdv ct : Value) (us : List Value), us.length = ps.length → bindArgs (PySem.W.fnOf x qual params body scope .none kV doc pm an cdv ct) ⟨us, []⟩ = pure (ps.zip us))
    (len : ∀ vs H Q E, sp vs H Q E → vs.length = ps.length)
    (hbody : ∀ (cdv : Value) (A : Around) (outer : List Env) (s : Shared) (H : Hp) (vs : List V) (Q : VK) (E : XK), Room k (A.deeper (envOfC qual scope s.heap.objs.size f cdv)) → sp vs H Q E →
      ∃ t, PSs (cxOf (L2.CX P w) P w K mg base N qual scope f cdv A outer s H E) body t ∧ t { nx := fun _ H' => Q .non H', rt := Q } (start N vs) H) : MetX P w K mg base (k + 1) C x sp :=
  ⟨f, fd, ps, cl, me, F.ok S len hbody, F.bindsN hb⟩
end
def tMethS (C : Addr) (m : Str) (sp : Sp) (E : St → XK) (ta : TE) (t : TA) : TE := fun σ H Q => ta σ H fun x H1 => ∃ a dx fs, x = .ref a ∧ H1 a = some (.ins C dx fs) ∧ fs.lookup m = none ∧ t σ H1 fun vs H2 => sp (x :: vs) H2 Q (E σ)
section
variable {X : Cx} {k j : Nat} {C : Addr} {x m : Str} {sp : Sp} {W : WX} {p pos apos pos2 : Pos} {e o : Expr} {es : List Expr} {ta : TE} {t : TA}
theorem pe_cX (c : CalX X.prog X.w X.K X.mg X.base k x sp) (hr : Room j X.A) (hk : k ≤ j) (hg : Gl X x) (tk : Takes X W) (ha : PA X (e :: es) t)
    (hdb : (x == ("__debug__" : Str)) = false := by decide) (he : starEach (e :: es) X.env = (false, eval e X.env) :: starEach es X.env := by rfl) (hpl : (backTo pos (starEach es X.env)).any (·.1) = false := by rfl) :
    PE X (.Call (.Name x p) (e :: es) [] pos) (tCallS sp (WE W) t) := by
  obtain ⟨f, fd, ps, F, hm, kp, b⟩ := c.ex
  exact pe_callS F (hr.mono hk) hg hm kp b (fun σ => passAt tk σ) ha hdb he hpl
theorem pe_mtX {pl : Sem Bool} (c : MetX X.prog X.w X.K X.mg X.base k C m sp) (hr : Room j X.A) (hk : k ≤ j) (tk : Takes X W) (he : PE X o ta) (ha : PA X (e :: es) t)
    (hst : starEach (e :: es) X.env = (false, eval e X.env) :: starEach es X.env := by rfl) (hpl : (backTo pos (starEach es X.env)).any (·.1) = false := by rfl)
    (ht : eval (.Call (.Attribute o m apos) (e :: es) [] pos) X.env = (do
      let ov ← eval o X.env
      standAt apos.atName
      let (f, first) ← holding [ov] (getMethod ov m pl)
      callWith pos f first (backTo pos (starEach (e :: es) X.env)) (backToKw pos (keywordEach [] X.env))) := by rfl) :
    PE X (.Call (.Attribute o m apos) (e :: es) [] pos) (tMethS C m sp (WE W) ta t) := by
  obtain ⟨f, fd, ps, hc, hm, F, b⟩ := c.ex
  refine ⟨fun pins s σ H Q I h => ?_⟩
  refine PySem.W.methodCall_KW (pl := pl) (thn (he.run pins s σ H _ I h) fun u s1 ⟨x, H1, I1, rx, a, dx, fs, ex, ea, l, q⟩ => ?_) ht
  subst ex
  obtain rfl : u = Value.ref a := rx
  refine getmeth_ok I1 ea hc hm l ?_
  refine PySem.W.callWith_K (first := [.ref a]) (h₀ := X.base) I.ok.mod.kin hm.kp (thn (ha.run pos pins s1 σ H1 _ I1 q) fun us s2 ⟨vs, H2, I2, r, q2⟩ => ⟨I2.kIn, ?_⟩) hst hpl
  exact run_fnS (us := .ref a :: us) (vs := .ref a :: vs) F (hr.mono hk) b (passAt tk σ) I2 (.cons rfl r) q2
theorem pe_mtX0 {pl : Sem Bool} (c : MetX X.prog X.w X.K X.mg X.base k C m sp) (hr : Room j X.A) (hk : k ≤ j) (tk : Takes X W) (he : PE X o ta)
    (ht : eval (.Call (.Attribute o m apos) [] [] pos) X.env = (do
      let ov ← eval o X.env
      standAt apos.atName
      let (f, first) ← holding [ov] (getMethod ov m pl)
      callWith pos f first (backTo pos (starEach [] X.env)) (backToKw pos (keywordEach [] X.env))) := by rfl) :
    PE X (.Call (.Attribute o m apos) [] [] pos) (tMethS C m sp (WE W) ta tNil) := by
  obtain ⟨f, fd, ps, hc, hm, F, b⟩ := c.ex
  refine ⟨fun pins s σ H Q I h => ?_⟩
  refine PySem.W.methodCall_KW (pl := pl) (thn (he.run pins s σ H _ I h) fun u s1 ⟨x, H1, I1, rx, a, dx, fs, ex, ea, l, q⟩ => ?_) ht
  subst ex
  obtain rfl : u = Value.ref a := rx
  refine getmeth_ok I1 ea hc hm l ?_
  exact PySem.W.callWith_K0 (first := [.ref a]) I1.kIn hm.kp (run_fnS (us := [.ref a]) (vs := [.ref a]) F (hr.mono hk) b (passAt tk σ) I1 (.cons rfl .nil) q)
def tWeak (te : TE) : TE := fun σ H Q => ∃ Q' : VK, te σ H Q' ∧ ∀ v H1, Q' v H1 → Q v H1
theorem pe_weak (he : PE X e ta) : PE X e (tWeak ta) := ⟨fun pins s σ H Q I ⟨Q', h, m⟩ => wpAny_mono (he.run pins s σ H Q' I h) (fun _ _ ⟨v, H1, I1, r, q⟩ => ⟨v, H1, I1, r, m v H1 q⟩) fun _ _ z => z⟩
/-- raise C(e), C with one field -/
def tRaz (C : Addr) (f : Str) (W : WX) (te : TE) : TS := fun _ σ H => te σ H fun v H1 => ∀ d, H1 d = none → W (.ref C) (some d) σ (upd H1 d (.xd [(f, v)]))
theorem ps_raz {f : Str} (r : Raz X.prog X.w X.K X.mg X.base x C f) (hc : X.calm = true) (hr : Room j X.A) (hk : 2 ≤ j) (hg : Gl X x) (tk : Takes X W) (he : PE X e ta)
    (hdb : (x == ("__debug__" : Str)) = false := by decide) (hs : starEach (e :: []) X.env = (false, eval e X.env) :: starEach [] X.env := by rfl) (hpl : (backTo pos (starEach [] X.env)).any (·.1) = false := by rfl) :
    PS X (.Raise (some (.Call (.Name x p) [e] [] pos)) none pos2) (tRaz C f W ta) := by
  obtain ⟨fI, fd, T, hm, F, b⟩ := r.ex
  have he2 : PE X e (tWeak ta) := pe_weak he
  have z := ps_raise (pos := pos2) hc tk (pmk_oex (p := p) (pos := pos) T.oex T.ini T.tI F (hr.mono hk) b .nil pass0 hg hm (pa_cons he2 pa_nil hs) hdb hs hpl)
  refine ⟨fun pins s σ H D I h => z.run pins s σ H D I ?_⟩
  refine ⟨_, h, fun v H1 q => ⟨by show 1 ≤ 1000; decide, fun a ha => ⟨a, C, v, rfl, T.oex, T.no, upd_same, fun dx hd hne => ⟨rfl, dx, [(f, v)], upd_same, ?_, ?_, ?_⟩⟩⟩⟩
  · rw [upd_ne hne, upd_same]
  · rw [upd_ne hne] at hd
    exact hd
  · rw [upd_ne hne] at hd
    have e : upd (del (upd (upd (upd H1 a (exo a C none)) dx (exd dx [(f, v)])) a (exo a C (some dx))) a) dx (.xd [(f, v)]) = upd H1 dx (.xd [(f, v)]) := by
      funext b
      by_cases hb : b = dx
      · rw [hb, upd_same, upd_same]
      · rw [upd_ne hb, upd_ne hb]
        by_cases hba : b = a
        · rw [hba, del_same, ha]
        · rw [del_ne hba, upd_ne hba, upd_ne hb, upd_ne hba]
    rw [e]
    exact q dx hd
end
section
variable {σ : St} {H : Hp} {D : Ends} {Q : VK} {C a : Addr} {K : Frg} {f m : Str} {W : WX} {te to ta : TE} {t : TA} {sp : Sp} {E : St → XK} {n : St → Hp → Prop} {r : VK} {b c : St → Hp → Prop} {cls : Value} {d : Option Addr}
theorem r_raz (h : te σ H fun v H1 => ∀ d, H1 d = none → W (.ref C) (some d) σ (upd H1 d (.xd [(f, v)]))) : tRaz C f W te D σ H := h
theorem r_ost (h : te σ H fun y H1 => to σ H1 fun x H2 => ∃ a C : Addr, x = .ref a ∧ OexC K C ∧ PySem.W.findIn K (.ref C) f = some none ∧
  ((H2 a = some (exo a C none) ∧ ∀ dx, H2 dx = none → dx ≠ a → n σ (upd (upd H2 dx (exd dx [(f, y)])) a (exo a C (some dx)))) ∨
    ∃ (dx : Addr) (fs : List (Str × V)), H2 a = some (exo a C (some dx)) ∧ H2 dx = some (exd dx fs) ∧ fs.length ≤ 900 ∧ n σ (upd H2 dx (exd dx ((f, y) :: fs))))) : tOst K f to te ⟨n, r, b, c⟩ σ H := h
theorem r_callS (h : t σ H fun vs H1 => sp vs H1 Q (E σ)) : tCallS sp E t σ H Q := h
theorem r_methS (h : ta σ H fun x H1 => ∃ a dx fs, x = .ref a ∧ H1 a = some (.ins C dx fs) ∧ fs.lookup m = none ∧ t σ H1 fun vs H2 => sp (x :: vs) H2 Q (E σ)) : tMethS C m sp E ta t σ H Q := h
theorem r_xf (h : te σ H fun x H1 => x = .ref a ∧ cls = .ref C ∧ ∃ (dd : Addr) (fs : List (Str × V)) (v : V), d = some dd ∧ H1 dd = some (.xd fs) ∧ fs.lookup f = some v ∧ Q v H1) : tXf a cls d C f te σ H Q := h
end
section
variable {P : Program} {w : World} {K : Frg} {mg : Str → Option Value} {base : Heap} {params : Arguments} {body : List Stmt} {scope : Scope} {f : Addr} {fd : FuncData} {x : Str} {C : Addr}
/-- an exception class from what the top wrote -/
theorem razM {n qual : Str} {dv : V} (F : FunD K "__init__" qual params body scope [dv] [] f fd) (S : FnScope ["self", n] ["self", n] scope) (T : ExcK K C f n) (m : mg x = some (.ref C))
    (h : ∀ (Tt : Addr) (kV doc pm : Value) (an : Option Addr) (cdv ct : Value) (us its : List Value), us.length = 2 → its.length = 1 →
      ∃ k, bindArgs (PySem.W.fnOf "__init__" qual params body scope (.ref Tt) kV doc pm an cdv ct) ⟨us, []⟩ = seqItems? (.ref Tt) >>= k ∧ k (some its.toArray) = pure ((["self", n] : List Str).zip (us ++ its.drop 1)))
    (hbody : ∀ (cdv : Value) (A : Around) (outer : List Env) (s : Shared) (H : Hp) (E : XK), PSs (cxOf CX0 P w K mg base ["self", n] qual scope f cdv A outer s H E).nox body (tOst K n (tVar 0) (tVar 1))) : Raz P w K mg base x C n := by
  obtain ⟨ds, r, b⟩ := F.binds1 2 1 (List.cons_ne_nil _ _) rfl h
  have e : ds = [] := by
    cases r
    rfl
  subst e
  refine ⟨f, fd, T, m, F.ok S (fun vs H Q E hs => ?_) fun cdv A outer s H vs Q E hr hs => ?_, b⟩
  · obtain ⟨_, _, _, rfl, _⟩ := hs
    rfl
  · obtain ⟨a, C', v, rfl, T', no, ea, q⟩ := hs
    refine ⟨_, (hbody cdv A outer s H E).nox, ?_⟩
    exact ⟨_, rfl, _, rfl, a, C', rfl, T', no, .inl ⟨ea, q⟩⟩
end
section
variable {X : Cx} {x n : Str} {c : Value} {i : Nat} {body suite : List Stmt} {b₀ : Stmt} {np pos pos' : Pos} {tb : WX → TS} {ts : Addr → Value → Option Addr → TS} {Wout : WX}
/-- ps_try_as, the readings told behind the bodies (so that the elaborator sees the statements first) -/
theorem ps_try_asE (hs : X.stack = X.env :: X.outer) (hf : X.env.frame = some X.env.locals) (hN : X.N.Nodup) (hi : X.N[i]? = some n) (hln : X.env.kindOf n = some .local) (hc : Names X x c) (tk : Takes X Wout)
    (hb : ∀ (W : WX) (pn : List (Addr × Obj)) (xe : Value → Shared → Prop), Takes (X.tr pn xe) W → PassesOwn (model X.prog X.w) X.A X.env xe → ∃ t, PSs (X.tr pn xe) body t ∧ t = tb W)
    (hsu : ∀ (a : Addr) (oe : Obj) (cls : Value) (d : Option Addr) (pn : List (Addr × Obj)), Zc cls d oe → (∃ vs, oe.data = .fields vs) → ∃ t, PSs (X.suite a ((a, oe) :: pn)) (b₀ :: suite) t ∧ t = ts a cls d) :
    PS X (.Try body [.ExceptHandler (some (.Name x np)) (some n) (b₀ :: suite) pos'] [] [] pos) (fun D σ H => tb (wAs X.K c i ts Wout D) D σ H) :=
  ps_try_as hs hf hN hi hln hc tk (fun W pn xe h1 h2 => by
    obtain ⟨t, p, e⟩ := hb W pn xe h1 h2
    rw [← e]
    exact p) fun a oe cls d pn h1 h2 => by
    obtain ⟨t, p, e⟩ := hsu a oe cls d pn h1 h2
    rw [← e]
    exact p
end
theorem pi_listK {X : Cx} {tg l : Expr} {tl : TE} {K : Frg} (e : X.K = K) (hl : PE X l tl) : PI X tg l (iList K tl) := by
  rw [← e]
  exact pi_list hl

/-! ### isinstance of a caught error that has a field -/
structure IsxC (K : Frg) (D : Addr) : Prop where
  xf : XfC K D
  ha : PySem.W.findIn K (.ref D) "__class__" = some (some (.builtin "object.__class__"))
  hn : PySem.W.specialIn K (.builtin "object.__class__") "__get__" = some (some (.builtin "getset_descriptor.__get__"))
  ht : PySem.W.takesIn K (.builtin "object.__class__") = some true
  hm : PySem.W.mroIn K D (.type "object") = some true
def isxB (K : Frg) (D : Addr) : Bool := xfB K D && (decide (PySem.W.findIn K (.ref D) "__class__" = some (some (.builtin "object.__class__"))) && (decide (PySem.W.specialIn K (.builtin "object.__class__") "__get__" = some (some (.builtin "getset_descriptor.__get__"))) && (decide (PySem.W.takesIn K (.builtin "object.__class__") = some true) && decide (PySem.W.mroIn K D (.type "object") = some true))))
theorem isxM {K : Frg} {D : Addr} (h : isxB K D = true) : IsxC K D := by
  obtain ⟨h1, h⟩ := both h
  obtain ⟨h2, h⟩ := both h
  obtain ⟨h3, h⟩ := both h
  obtain ⟨h4, h5⟩ := both h
  exact ⟨xfB_ok h1, of_decide_eq_true h2, of_decide_eq_true h3, of_decide_eq_true h4, of_decide_eq_true h5⟩
def rIsX (K : Frg) (a : Addr) (cls : Value) (d : Option Addr) : List V → Hp → VK → Prop := fun xs H Q => ∃ (C D dd : Addr) (fs : List (Str × V)) (b : Bool), xs = [.ref a, .ref C] ∧ cls = .ref D ∧ d = some dd ∧ H dd = some (.xd fs) ∧ IsxC K D ∧ PySem.W.kitOne K (.ref D) (.ref C) = some b ∧ Q (.bl b) H
theorem call_isX {X : Cx} {a : Addr} {cls : Value} {d : Option Addr} {oe : Obj} {pn : List (Addr × Obj)} (hz : Zc cls d oe) (hf : ∃ vs, oe.data = .fields vs) : CallR (X.suite a ((a, oe) :: pn)) (.builtin "isinstance") (rIsX X.K a cls d) := by
  intro pins s σ H xs us Q I r h
  obtain ⟨C, D, dd, fs, b, rfl, rfl, rfl, ea, T, e, q⟩ := h
  cases r with
  | cons rx rr =>
    cases rr with
    | cons rt rr =>
      cases rr
      cases rx
      cases rt
      obtain ⟨hget, _⟩ := I.pin (a, oe) (List.mem_append_left _ List.mem_cons_self)
      obtain ⟨vs, hv⟩ := hf
      have hx : ObjOk X.prog X.w H s.heap dd (.xd fs) := I.hok dd _ ea
      obtain ⟨mA, hns, _⟩ := hx
      obtain ⟨od, ho, _⟩ := lookIn_ns hns
      have J : PySem.W.InstAt s.heap a oe D (some od) := ⟨hget, hz.1, by unfold PySem.W.notCls; rw [hv] <;> rfl, by rw [hz.2]; exact ho⟩
      have ic : (PySem.W.clsIn X.K D).isSome = true := by
        have q := T.xf.hdC
        unfold PySem.W.hasDictIn at q
        cases z : PySem.W.clsIn X.K D with
        | some c => rfl
        | none => rw [z] at q; cases q
      exact PySem.W.kia_one (PySem.W.kitx_exc ic T.xf.ga T.xf.gg T.xf.exC T.ha T.hn T.ht T.hm) I.kIn J e (fun z => nomatch z) fun tk => ⟨.bl b, H, I.kept (t' := tk) fun _ _ z => z, rfl, q⟩

/-! ### the Hook over addresses that are written down -/
def hookY (l : List Addr) (fa : List He.Fa) (ex : Frg → Bool) (fn : List DefM) (ts : List TabX) : PySem.W.Hook where
  α := AlX
  obs := fun s => obsX fa ex fn ts (He.frG s.heap.get? l)
  val := fun w => valX fn ts w
  says := fun w h => ∃ K : Frg, K.In h ∧ SaysX fa ex fn ts w K
  of := fun _ _ e => ⟨_, He.frG_in, e⟩
  keeps := fun _ _ _ ⟨K, hK, c⟩ k => ⟨K, PySem.W.Frag.In.keeps hK k, c⟩
theorem obsY_eq {l : List Addr} {fa : List He.Fa} {ex : Frg → Bool} {fn : List DefM} {ts : List TabX} {g : Addr → Option Obj} {s : Shared} (h : ∀ a, g a = s.heap.get? a) : obsX fa ex fn ts (He.frG g l) = (hookY l fa ex fn ts).obs s := by
  have e : g = s.heap.get? := funext h
  subst e
  rfl
/-- the same for a program without such dicts -/
def hookZ (l : List Addr) (fa : List He.Fa) (ex : Frg → Bool) (fn : List DefM) : PySem.W.Hook where
  α := AlM
  obs := fun s => obsM fa ex fn (He.frG s.heap.get? l)
  val := fun _ => valM fn
  says := fun _ h => ∃ K : Frg, K.In h ∧ SaysM fa ex fn K
  of := fun _ _ e => ⟨_, He.frG_in, e⟩
  keeps := fun _ _ _ ⟨K, hK, c⟩ k => ⟨K, PySem.W.Frag.In.keeps hK k, c⟩
theorem obsZ_eq {l : List Addr} {fa : List He.Fa} {ex : Frg → Bool} {fn : List DefM} {g : Addr → Option Obj} {s : Shared} (h : ∀ a, g a = s.heap.get? a) : obsM fa ex fn (He.frG g l) = (hookZ l fa ex fn).obs s := by
  have e : g = s.heap.get? := funext h
  subst e
  rfl

/-! ### a def that is given as an argument, and called by the parameter's name -/
def tCallN (mg : Str → Option Value) (i : Nat) (y : Str) (sp : Sp) (t : TA) : TE := fun σ H Q => (∃ f, σ[i]? = some (some (.ref f)) ∧ mg y = some (.ref f)) ∧ t σ H fun vs H1 => sp (vs ++ []) H1 Q C8.E0
section
variable {X : Cx} {k j i : Nat} {x y : Str} {sp : Sp} {p pos : Pos} {e : Expr} {es : List Expr} {t : TA}
theorem pe_cL (c : Cal X.prog X.w X.K X.mg X.base k y sp []) (hr : Room j X.A) (hk : k ≤ j) (ha : PA X (e :: es) t)
    (hN : X.N[i]? = some x := by rfl) (hv : Vis X.env.scope x := by first | exact Or.inl rfl | exact Or.inr (Or.inl rfl) | exact Or.inr (Or.inr rfl))
    (hdb : (x == ("__debug__" : Str)) = false := by decide) (hcd : (x == ("__classdict__" : Str)) = false := by decide) (he : starEach (e :: es) X.env = (false, eval e X.env) :: starEach es X.env := by rfl) (hpl : (backTo pos (starEach es X.env)).any (·.1) = false := by rfl) :
    PE X (.Call (.Name x p) (e :: es) [] pos) (tCallN X.mg i y sp t) := by
  refine ⟨fun pins s σ H Q I h => ?_⟩
  obtain ⟨⟨f, hs, hf⟩, ht⟩ := h
  obtain ⟨f', fd, ps, ds, F, hm, kp, b, d⟩ := c.ex
  rw [hm] at hf
  cases hf
  exact (L2.pe_callL (i := i) (f := f) (sp := sp) (dvs := []) (E := C8.E0) F (hr.mono hk) hN hv kp b d pass0 ha hdb hcd he hpl).run pins s σ H Q I ⟨hs, ht⟩
end
theorem r_callN {mg : Str → Option Value} {i : Nat} {y : Str} {sp : Sp} {t : TA} {σ : St} {H : Hp} {Q : VK} {f : Addr} (h1 : σ[i]? = some (some (.ref f))) (h2 : mg y = some (.ref f)) (h : t σ H fun vs H1 => sp (vs ++ []) H1 Q C8.E0) : tCallN mg i y sp t σ H Q := ⟨⟨f, h1, h2⟩, h⟩

/-! ### own classes: made, their fields and methods -/
theorem lk_hit (k : Str) (v : V) (r : List (Str × V)) : List.lookup k ((k, v) :: r) = some v := by simp [List.lookup]
theorem lk_miss {k a : Str} {v : V} {r : List (Str × V)} (h : (a == k) = false) : List.lookup a ((k, v) :: r) = List.lookup a r := by
  show (match a == k with
    | true => some v
    | false => List.lookup a r) = _
  rw [h]
theorem pf_nil (k : Str) (v : V) : putF k v [] = [(k, v)] := rfl
theorem pf_hit (k : Str) (v x : V) (r : List (Str × V)) : putF k v ((k, x) :: r) = (k, v) :: r := if_pos rfl
theorem pf_miss {k g : Str} {v x : V} {r : List (Str × V)} (h : ¬ g = k) : putF k v ((g, x) :: r) = (g, x) :: putF k v r := if_neg h
section
variable {X : Cx} {k j : Nat} {C : Addr} {x m : Str} {sp : Sp} {dvs : List V} {p pos apos : Pos} {e o : Expr} {es : List Expr} {ta : TE} {t : TA}
theorem pe_mk0 (c : Mak X.prog X.w X.K X.mg X.base k x C sp dvs) (hr : Room j X.A) (hk : k + 1 ≤ j) (hg : Gl X x) (hdb : (x == ("__debug__" : Str)) = false := by decide) : PE X (.Call (.Name x p) [] [] pos) (tMake C sp dvs C8.E0 tNil) := by
  obtain ⟨_, _, _, _, M, F, hm, b, d⟩ := c.ex
  exact pe_make0 M F (hr.mono hk) hg hm b d pass0 hdb
/-- a property of the class at C -/
structure Prp (P : Program) (w : World) (K : Frg) (mg : Str → Option Value) (base : Heap) (k : Nat) (C : Addr) (f : Str) (sp : Sp) : Prop where
  ex : ∃ (q g : Addr) (fd : FuncData) (ps : List Str), Cls K C ∧ PropOf K C f q g ∧ FnOk P w K mg base CX0 k g fd ps sp ∧ Binds K fd ps []
theorem pe_pr {f : Str} (c : Prp X.prog X.w X.K X.mg X.base k C f sp) (hr : Room j X.A) (hk : k + 1 ≤ j) (he : PE X o ta) (hab : attributeBase o f X.env (eval o X.env) = eval o X.env := by rfl) : PE X (.Attribute o f pos) (tProp C sp [] C8.E0 ta) := by
  obtain ⟨_, _, _, _, cl, q, F, b⟩ := c.ex
  exact pe_prop he cl q F (hr.mono hk) b .nil pass0 hab
end
section
variable {P : Program} {w : World} {K : Frg} {mg : Str → Option Value} {base : Heap} {x qual : Str} {params : Arguments} {body : List Stmt} {scope : Scope} {f : Addr} {fd : FuncData} {N ps : List Str} {k : Nat} {sp : Sp} {C : Addr}
theorem metD (F : FunD K x qual params body scope [] [] f fd) (cl : Cls K C) (me : Meth K C x f) (S : FnScope N ps scope)
    (hb : ∀ (kV doc pm : Value) (an : Option Addr) (cdv ct : Value) (us : List Value), us.length = ps.length → bindArgs (PySem.W.fnOf x qual params body scope .none kV doc pm an cdv ct) ⟨us, []⟩ = pure (ps.zip us))
    (len : ∀ vs H Q E, sp vs H Q E → vs.length = ps.length)
    (hbody : ∀ (cdv : Value) (A : Around) (outer : List Env) (s : Shared) (H : Hp) (vs : List V) (Q : VK) (E : XK), Room k (A.deeper (envOfC qual scope s.heap.objs.size f cdv)) → sp vs H Q E →
      ∃ t, PSs (cxOf CX0 P w K mg base N qual scope f cdv A outer s H E).nox body t ∧ t { nx := fun _ H' => Q .non H', rt := Q } (start N vs) H) : Met P w K mg base (k + 1) C x sp [] :=
  ⟨f, fd, ps, [], cl, me, fnD F S len hbody, F.bindsN hb, .nil⟩
theorem makD {y : Str} (F : FunD K x qual params body scope [] [] f fd) (M : Mk K C f) (m : mg y = some (.ref C)) (S : FnScope N ps scope)
    (hb : ∀ (kV doc pm : Value) (an : Option Addr) (cdv ct : Value) (us : List Value), us.length = ps.length → bindArgs (PySem.W.fnOf x qual params body scope .none kV doc pm an cdv ct) ⟨us, []⟩ = pure (ps.zip us))
    (len : ∀ vs H Q E, sp vs H Q E → vs.length = ps.length)
    (hbody : ∀ (cdv : Value) (A : Around) (outer : List Env) (s : Shared) (H : Hp) (vs : List V) (Q : VK) (E : XK), Room k (A.deeper (envOfC qual scope s.heap.objs.size f cdv)) → sp vs H Q E →
      ∃ t, PSs (cxOf CX0 P w K mg base N qual scope f cdv A outer s H E).nox body t ∧ t { nx := fun _ H' => Q .non H', rt := Q } (start N vs) H) : Mak P w K mg base (k + 1) y C sp [] :=
  ⟨f, fd, ps, [], M, fnD F S len hbody, m, F.bindsN hb, .nil⟩
theorem prpD {y : Str} {q : Addr} (F : FunD K x qual params body scope [] [] f fd) (cl : Cls K C) (pr : PropOf K C y q f) (S : FnScope N ps scope)
    (hb : ∀ (kV doc pm : Value) (an : Option Addr) (cdv ct : Value) (us : List Value), us.length = ps.length → bindArgs (PySem.W.fnOf x qual params body scope .none kV doc pm an cdv ct) ⟨us, []⟩ = pure (ps.zip us))
    (len : ∀ vs H Q E, sp vs H Q E → vs.length = ps.length)
    (hbody : ∀ (cdv : Value) (A : Around) (outer : List Env) (s : Shared) (H : Hp) (vs : List V) (Q : VK) (E : XK), Room k (A.deeper (envOfC qual scope s.heap.objs.size f cdv)) → sp vs H Q E →
      ∃ t, PSs (cxOf CX0 P w K mg base N qual scope f cdv A outer s H E).nox body t ∧ t { nx := fun _ H' => Q .non H', rt := Q } (start N vs) H) : Prp P w K mg base (k + 1) C y sp :=
  ⟨q, f, fd, ps, cl, pr, fnD F S len hbody, F.bindsN hb⟩
end
section
variable {σ : St} {H : Hp} {n b c : St → Hp → Prop} {r : VK} {Q : VK} {K : Frg} {a C dx : Addr} {fs : List (Str × V)} {f : Str} {v : V}
theorem r_fld {te : TE} (h : te σ H fun x H1 => ∃ a C dx fs v, x = .ref a ∧ H1 a = some (.ins C dx fs) ∧ Cls K C ∧ NoAttr K C f ∧ fs.lookup f = some v ∧ Q v H1) : tFld K te f σ H Q := h
theorem r_fget {R : V → Prop} (h : H a = some (.ins C dx fs)) (cl : Cls K C) (na : NoAttr K C f) (l : fs.lookup f = some v) (q : R v) :
    ∃ a' C dx fs v, V.ref a = .ref a' ∧ H a' = some (.ins C dx fs) ∧ Cls K C ∧ NoAttr K C f ∧ fs.lookup f = some v ∧ R v := ⟨a, C, dx, fs, v, rfl, h, cl, na, l, q⟩
theorem r_sfld {ta tv : TE} (h : tv σ H fun y H1 => ta σ H1 fun x H2 => ∃ a C dx fs, x = .ref a ∧ H2 a = some (.ins C dx fs) ∧ Cls K C ∧ NoAttr K C f ∧ fs.length < 1000 ∧ n σ (upd H2 a (.ins C dx (putF f y fs)))) : sFld K ta tv f ⟨n, r, b, c⟩ σ H := h
theorem r_fset {R : Hp → Prop} {fs' : List (Str × V)} (h : H a = some (.ins C dx fs)) (cl : Cls K C) (na : NoAttr K C f) (hl : fs.length < 1000) (e : putF f v fs = fs') (q : R (upd H a (.ins C dx fs'))) :
    ∃ a' C dx fs, V.ref a = .ref a' ∧ H a' = some (.ins C dx fs) ∧ Cls K C ∧ NoAttr K C f ∧ fs.length < 1000 ∧ R (upd H a' (.ins C dx (putF f v fs))) := ⟨a, C, dx, fs, rfl, h, cl, na, hl, by rw [e]; exact q⟩
theorem r_meth {m : Str} {sp : Sp} {dvs : List V} {E : XK} {ta : TE} {t : TA} (h : ta σ H fun x H1 => ∃ a dx fs, x = .ref a ∧ H1 a = some (.ins C dx fs) ∧ fs.lookup m = none ∧ t σ H1 fun vs H2 => sp (x :: (vs ++ dvs)) H2 Q E) : tMeth C m sp dvs E ta t σ H Q := h
theorem r_mget {m : Str} {R : Prop} (h : H a = some (.ins C dx fs)) (l : fs.lookup m = none) (q : R) : ∃ a' dx fs, V.ref a = .ref a' ∧ H a' = some (.ins C dx fs) ∧ fs.lookup m = none ∧ R := ⟨a, dx, fs, rfl, h, l, q⟩
theorem r_prop {sp : Sp} {dvs : List V} {E : XK} {ta : TE} (h : ta σ H fun x H1 => ∃ a dx fs, x = .ref a ∧ H1 a = some (.ins C dx fs) ∧ sp (.ref a :: dvs) H1 Q E) : tProp C sp dvs E ta σ H Q := h
theorem r_pget {R : Addr → Prop} (h : H a = some (.ins C dx fs)) (q : R a) : ∃ a' dx fs, V.ref a = .ref a' ∧ H a' = some (.ins C dx fs) ∧ R a' := ⟨a, dx, fs, rfl, h, q⟩
theorem r_make {sp : Sp} {dvs : List V} {E : XK} {t : TA} (h : t σ H fun vs H1 => ∀ x dx, H1 x = none → H1 dx = none → dx ≠ x → sp (.ref x :: (vs ++ dvs)) (upd (upd H1 dx (.own x)) x (.ins C dx [])) (fun v H2 => v = .non ∧ Q (.ref x) H2) E) : tMake C sp dvs E t σ H Q := h
end
/-- a class whose __init__ has one default: made with it and without -/
theorem makD1 {P : Program} {w : World} {K : Frg} {mg : Str → Option Value} {base : Heap} {x qual : Str} {params : Arguments} {body : List Stmt} {scope : Scope} {f : Addr} {fd : FuncData} {N ps : List Str} {k : Nat} {sp : Sp} {C : Addr} {y : Str} {v : V} (F : FunD K x qual params body scope [v] [] f fd) (M : Mk K C f) (m : mg y = some (.ref C)) (S : FnScope N ps scope)
    (h1 : ∀ (T : Addr) (kV doc pm : Value) (an : Option Addr) (cdv ct : Value) (us its : List Value), us.length = ps.length - 1 → its.length = [v].length →
      ∃ k, bindArgs (PySem.W.fnOf x qual params body scope (.ref T) kV doc pm an cdv ct) ⟨us, []⟩ = seqItems? (.ref T) >>= k ∧ k (some its.toArray) = pure (ps.zip (us ++ its.drop 0)))
    (h2 : ∀ (T : Addr) (kV doc pm : Value) (an : Option Addr) (cdv ct : Value) (us its : List Value), us.length = ps.length → its.length = [v].length →
      ∃ k, bindArgs (PySem.W.fnOf x qual params body scope (.ref T) kV doc pm an cdv ct) ⟨us, []⟩ = seqItems? (.ref T) >>= k ∧ k (some its.toArray) = pure (ps.zip (us ++ its.drop 1)))
    (len : ∀ vs H Q E, sp vs H Q E → vs.length = ps.length)
    (hbody : ∀ (cdv : Value) (A : Around) (outer : List Env) (s : Shared) (H : Hp) (vs : List V) (Q : VK) (E : XK), Room k (A.deeper (envOfC qual scope s.heap.objs.size f cdv)) → sp vs H Q E →
      ∃ t, PSs (cxOf CX0 P w K mg base N qual scope f cdv A outer s H E).nox body t ∧ t { nx := fun _ H' => Q .non H', rt := Q } (start N vs) H) (hp : 1 ≤ ps.length := by decide) : Mak P w K mg base (k + 1) y C sp [v] ∧ Mak P w K mg base (k + 1) y C sp [] := by
  have ok : FnOk P w K mg base CX0 (k + 1) f fd ps sp := F.ok S len fun cdv A outer s H vs Q E hr h => by
    obtain ⟨t, a1, a2⟩ := hbody cdv A outer s H vs Q E hr h
    exact ⟨t, a1.nox, a2⟩
  obtain ⟨d1, r1, b1⟩ := F.binds1 (ps := ps) (ps.length - 1) 0 (by simp) (by show ps.length - 1 + (1 - 0) = _; omega) h1
  obtain ⟨d2, r2, b2⟩ := F.binds1 (ps := ps) ps.length 1 (by simp) (by show ps.length + (1 - 1) = _; omega) h2
  exact ⟨⟨f, fd, ps, d1, M, ok, m, b1, r1⟩, ⟨f, fd, ps, d2, M, ok, m, b2, r2⟩⟩
/-- .. of a def -/
theorem calD1 {P : Program} {w : World} {K : Frg} {mg : Str → Option Value} {base : Heap} {x qual : Str} {params : Arguments} {body : List Stmt} {scope : Scope} {f : Addr} {fd : FuncData} {N ps : List Str} {k : Nat} {sp : Sp} {v : V} (F : FunD K x qual params body scope [v] [] f fd) (m : mg x = some (.ref f)) (S : FnScope N ps scope)
    (h1 : ∀ (T : Addr) (kV doc pm : Value) (an : Option Addr) (cdv ct : Value) (us its : List Value), us.length = ps.length - 1 → its.length = [v].length →
      ∃ k, bindArgs (PySem.W.fnOf x qual params body scope (.ref T) kV doc pm an cdv ct) ⟨us, []⟩ = seqItems? (.ref T) >>= k ∧ k (some its.toArray) = pure (ps.zip (us ++ its.drop 0)))
    (h2 : ∀ (T : Addr) (kV doc pm : Value) (an : Option Addr) (cdv ct : Value) (us its : List Value), us.length = ps.length → its.length = [v].length →
      ∃ k, bindArgs (PySem.W.fnOf x qual params body scope (.ref T) kV doc pm an cdv ct) ⟨us, []⟩ = seqItems? (.ref T) >>= k ∧ k (some its.toArray) = pure (ps.zip (us ++ its.drop 1)))
    (len : ∀ vs H Q E, sp vs H Q E → vs.length = ps.length)
    (hbody : ∀ (cdv : Value) (A : Around) (outer : List Env) (s : Shared) (H : Hp) (vs : List V) (Q : VK) (E : XK), Room k (A.deeper (envOfC qual scope s.heap.objs.size f cdv)) → sp vs H Q E →
      ∃ t, PSs (cxOf CX0 P w K mg base N qual scope f cdv A outer s H E).nox body t ∧ t { nx := fun _ H' => Q .non H', rt := Q } (start N vs) H) (hp : 1 ≤ ps.length := by decide) : Cal P w K mg base (k + 1) x sp [v] ∧ Cal P w K mg base (k + 1) x sp [] := by
  have ok : FnOk P w K mg base CX0 (k + 1) f fd ps sp := F.ok S len fun cdv A outer s H vs Q E hr h => by
    obtain ⟨t, a1, a2⟩ := hbody cdv A outer s H vs Q E hr h
    exact ⟨t, a1.nox, a2⟩
  obtain ⟨d1, r1, b1⟩ := F.binds1 (ps := ps) (ps.length - 1) 0 (by simp) (by show ps.length - 1 + (1 - 0) = _; omega) h1
  obtain ⟨d2, r2, b2⟩ := F.binds1 (ps := ps) ps.length 1 (by simp) (by show ps.length + (1 - 1) = _; omega) h2
  exact ⟨⟨f, fd, ps, d1, ok, m, F.kp, b1, r1⟩, ⟨f, fd, ps, d2, ok, m, F.kp, b2, r2⟩⟩

/-! ### loops over rows -/
section
variable {X : Cx} {tg iter : Expr}
/-- one of two ways to come by an iterator -/
theorem pi_or {u v : TI} (h1 : PI X tg iter u) (h2 : PI X tg iter v) : PI X tg iter (fun σ H R => u σ H R ∨ v σ H R) := by
  refine ⟨fun pins s σ H R I h => ?_⟩
  rcases h with h | h
  · exact h1.run pins s σ H R I h
  · exact h2.run pins s σ H R I h
end
set_option maxHeartbeats 8000000 in
theorem meets_enum1 {v : Value} {o : Obj} {G : Heap → Prop} (B : Begins v o G) :
    Meets (Builtin.«enumerate.__new__» ⟨[.type "enumerate", v], []⟩) (fun _ R s => G s.heap ∧
      R (.ok (.ret (.ref (s.heap.push o).objs.size))) { s with heap := (s.heap.push o).push { cls := .type "enumerate", data := .fields #[.none, .bool false, .ref s.heap.objs.size, rawInt 0, .none, .none] } }) :=
  .of_wp fun prog w A R s h => by
    obtain ⟨hp, g, d, tk, os⟩ := s
    obtain ⟨h1, h⟩ := h
    have hsub := sub_enumerate
    have q1 : ∀ {A' : Around} {E : Value → Shared → Prop} {Q : Value → Shared → Prop}, Q (.ref hp.objs.size) ⟨hp.push o, g, d, tk, os⟩ → wpAny (model prog w) A' (pyIter v) Q E ⟨hp, g, d, tk, os⟩ :=
      fun q => B.iter prog w _ _ ⟨hp, g, d, tk, os⟩ _ h1 q
    wp_walk using q1
    refine wpAny_stack_any fun st => wpAny_pure ?_
    split
    · rename_i c _ _ _ _ _
      cases (c == Value.type "enumerate")
      · wp_walk using q1
        exact ⟨_, rfl, h⟩
      · wp_walk using q1
        exact ⟨_, rfl, h⟩
    · wp_walk using q1
      exact ⟨_, rfl, h⟩
theorem call_enum1 {prog : Program} {w : World} {A : Around} {E : Value → Shared → Prop} {s : Shared} {v : Value} {o : Obj} {G : Heap → Prop} {Q : Value → Shared → Prop} (B : Begins v o G) (h1 : G s.heap)
    (h : ∀ h', IsEnum h' (s.heap.objs.size + 1) s.heap.objs.size 0 .none → h'.get? s.heap.objs.size = some o → h'.objs.size = s.heap.objs.size + 2 →
      (∀ b o, s.heap.get? b = some o → h'.get? b = some o) → Q (.ref (s.heap.objs.size + 1)) { s with heap := h' }) : wpAny (model prog w) A (call (.type "enumerate") [v]) Q E s := by
  refine callType_new F.called_enumerate (by decide) (F.typeCall_enumerate_1 _) (F.newCall_enumerate_1 _) (fun obj => F.args_object_init_2 obj _) F.entry_enumerate_new (meets_enum1 B) ⟨h1, ?_⟩
  have hz : (s.heap.push o).objs.size = s.heap.objs.size + 1 := Heap.size_push ..
  show _ ∧ _
  rw [hz]
  have he := Heap.get?_push_size (s.heap.push o) (o := { cls := .type "enumerate", data := .fields #[.none, .bool false, .ref s.heap.objs.size, rawInt 0, .none, .none] }) rfl
  rw [hz] at he
  exact ⟨⟨_, he, rfl⟩, h _ he (Heap.get?_push_of_some _ (Heap.get?_push_size _ B.free)) (by rw [Heap.size_push, hz]) fun b o x => Heap.get?_push_of_some _ (Heap.get?_push_of_some _ x)⟩
/-- the tuple at a, each item in a new pair -/
def Itet (K : PySem.W.Frag) (a : Addr) (xs : List V) : It :=
  ⟨fun i H => SqT K H a xs ∧ i < xs.length, fun i H v H' => ∃ T x, v = .ref T ∧ H T = none ∧ H' = upd H T (.tup [.int (i : Nat), x]) ∧ xs[i]? = some x, fun i H => SqT K H a xs ∧ xs.length ≤ i⟩
theorem turn_enumT {P : Program} {w : World} {K : PySem.W.Frag} {elts : List Expr} {kk : Nat} {tpos : Pos} (a e it : Addr) (xs : List V) (hta : a ≠ it) :
    Turn P w K (.Tuple elts kk tpos) (Itet K a xs) [e, it] e (fun i h => (∃ old, IsEnum h e it ((i : Nat) : Int) old) ∧ h.IsTupleIter it a i ∧ e ≠ it ∧ i ≤ xs.length) where
  mem := by simp
  obj := fun i h st b hb => by
    obtain ⟨⟨old, he⟩, ⟨o, ho, hc, hd⟩, _⟩ := st
    have e' : b = e ∨ b = it := by simpa using hb
    rcases e' with z | z
    · rw [z]
      exact ⟨_, he, fun v q => nomatch q⟩
    · rw [z]
      exact ⟨o, ho, fun v q => by rw [hd] at q; cases q⟩
  keep := fun i h h' st k => let ⟨⟨old, he⟩, hi, hne, hn⟩ := st; ⟨⟨old, k e (by simp) _ he⟩, hi.at fun o q => k it (by simp) o q, hne, hn⟩
  item := by
    intro X hP hw hK hc i pins s σ H E I hf st hg
    subst hP hw hK
    obtain ⟨⟨old, he⟩, hit, hne, hn⟩ := st
    obtain ⟨hq, hlt⟩ := hg
    obtain ⟨its, rv, p, hz⟩ := I.tuple hq
    have p' : s.heap.IsTuple a its.toArray := p
    have hl := rv.length
    have hel : e < s.heap.objs.size := Heap.lt_size he
    have hil : it < s.heap.objs.size := by
      obtain ⟨_, q, _⟩ := hit
      exact Heap.lt_size q
    have hea : e ≠ a := fun q => by
      obtain ⟨o, ho, hc', _⟩ := p'
      rw [← q, he] at ho
      cases ho
      have z : Value.type "enumerate" = Value.type "tuple" := hc'
      injection z with z
      exact absurd z (by decide)
    have D := Draws.tuple (prog := X.prog) (w := X.w) (A := X.A.in1) (I.ok.hd hc) it a hta its.toArray
    refine wpAny_pyNext_enum_itemD D he ⟨hit, p'⟩ (by simpa [← hl] using hlt) hne (by simp [hne, hea]) fun u h' tk hu ho hs' hT hsz hk => ?_
    obtain ⟨x, hx, ru⟩ : ∃ x, xs[i]? = some x ∧ RelV x u := by
      obtain ⟨u', hu', r'⟩ := rv.get (List.getElem?_eq_getElem hlt)
      have e1 : its[i]? = some u := by simpa using hu
      rw [e1] at hu'
      cases hu'
      exact ⟨_, List.getElem?_eq_getElem hlt, r'⟩
    refine ⟨_, rfl, wpAny_letOwnedTupleGo_enum (s := { s with heap := h', toks := tk + 1 }) ho fun h'' he' sb => ?_⟩
    have hT2 : h''.get? s.heap.objs.size = some { cls := .type "tuple", data := .seq #[.int i tk, u] } := (sb.2 _ (Nat.ne_of_gt hel)).trans hT
    have new : ObjOk X.prog X.w (upd H s.heap.objs.size (.tup [.int (i : Nat), x])) h'' s.heap.objs.size (.tup [.int (i : Nat), x]) :=
      ⟨by show 2 ≤ sizeLine; decide, [.int i tk, u], .cons ⟨_, rfl⟩ (.cons ru .nil), ⟨_, hT2, rfl, _, rfl⟩⟩
    have I1 : Inv X pins σ (upd H s.heap.objs.size (.tup [.int (i : Nat), x])) { s with heap := h'', toks := tk + 1 } :=
      I.turnedNew (ch := [e, it]) (fun b ob hb q => (sb.2 b (fun z => hb (by simp [z]))).trans (hk b ob (fun z => hb (by simp [z])) (fun z => hb (by simp [z])) q)) hf (Nat.le_refl _) new
    refine ⟨.ref s.heap.objs.size, _, I1, rfl, ⟨_, x, rfl, I.hok.fresh (Nat.le_refl _), rfl, hx⟩, ⟨⟨u, ?_⟩, hs'.1.at fun o q => (sb.2 it (Ne.symm hne)).trans q, hne, hlt⟩, fun b hb => ?_⟩
    · have e1 : ((i + 1 : Nat) : Int) = (i : Int) + 1 := by omega
      rw [e1]
      exact he'
    · have hb' : b < s.heap.objs.size := by
        have e' : b = e ∨ b = it := by simpa using hb
        rcases e' with z | z
        · rw [z]
          exact hel
        · rw [z]
          exact hil
      rw [upd_ne (Nat.ne_of_lt hb')]
      exact (hf b hb).1
  done := by
    intro X hP hw hK hc i pins s σ H E I hf st hg
    subst hP hw hK
    obtain ⟨⟨old, he⟩, hit, hne, hn⟩ := st
    obtain ⟨hq, hx⟩ := hg
    obtain ⟨its, rv, p, hz⟩ := I.tuple hq
    have p' : s.heap.IsTuple a its.toArray := p
    obtain ⟨f0, f1, f2, f3, f4, f5⟩ := hf it (by simp)
    have hl := rv.length
    have hi : i = its.toArray.size := by
      simp
      omega
    subst hi
    have D := Draws.tuple (prog := X.prog) (w := X.w) (A := X.A.in1) (I.ok.hd hc) it a hta its.toArray
    exact wpAny_pyNext_enum_endD D he ⟨hit, p'⟩ fun h' eb => ⟨rfl, I.turned (t' := s.toks) (fun b o hb q => eb b o hb q) f0 f1 f3 f4 f5⟩
  self := fun A i s Q E st h => let ⟨⟨_, he⟩, _⟩ := st; wpAny_pyIter_enum he h
def iEnumT (K : PySem.W.Frag) (ta : TA) : TI := fun σ H R => ta σ H fun vs H1 => ∃ a xs, vs = [.ref a] ∧ SqT K H1 a xs ∧ R (Itet K a xs) H1
theorem pi_enumT {X : Cx} {e : Expr} {ta : TA} {p pos tpos : Pos} {elts : List Expr} {kk : Nat} (hg : Gl X "enumerate") (hm : X.mg "enumerate" = none) (ha : PA X [e] ta) (hs : starEach [e] X.env = [(false, eval e X.env)] := by rfl) :
    PI X (.Tuple elts kk tpos) (.Call (.Name "enumerate" p) [e] [] pos) (iEnumT X.K ta) := by
  refine ⟨fun pins s σ H R I h => ?_⟩
  refine PyProof.Rows.Call_ (ld_blt I hg hm PyProof.Rows.boot_enumerate (PyProof.Rows.callWith_type1 (thn (ha.run pos pins s σ H _ I h) fun us s1 ⟨vs, H1, I1, r1, q1⟩ => ?_) hs rfl))
  obtain ⟨a, xs, ex, hq, q⟩ := q1
  subst ex
  cases r1 with
  | cons r rr =>
    cases rr
    cases r
    obtain ⟨its, rv, p', hz⟩ := I1.tuple hq
    have p2 : s1.heap.IsTuple a its.toArray := p'
    refine call_enum1 (begins_tuple a its.toArray) p2 fun h' he hit hsz hk => wpAny_pyIter_enum he ?_
    have I2 : Inv X pins σ H1 { s1 with heap := h' } := I1.kept (t' := s1.toks) hk
    have hal : a < s1.heap.objs.size := by
      obtain ⟨_, q, _⟩ := p2
      exact Heap.lt_size q
    refine ⟨s1.heap.objs.size + 1, [s1.heap.objs.size + 1, s1.heap.objs.size], _, _, H1, rfl, I2, turn_enumT a (s1.heap.objs.size + 1) s1.heap.objs.size xs (Nat.ne_of_lt hal), ⟨⟨.none, he⟩, ⟨_, hit, rfl, rfl⟩, Nat.succ_ne_self _, Nat.zero_le _⟩, fun b hb => ?_, q⟩
    have e' : b = s1.heap.objs.size + 1 ∨ b = s1.heap.objs.size := by simpa using hb
    have hle : s1.heap.objs.size ≤ b := by
      rcases e' with z | z
      · rw [z]
        exact Nat.le_add_right _ _
      · rw [z]
        exact Nat.le_refl _
    exact I1.fpOk hle (I1.hok.fresh hle)
/-! ### the turns of such loops -/
section
variable {σ : St} {H : Hp} {n b c : St → Hp → Prop} {r : VK} {Q : VK} {K : PySem.W.Frag}
theorem r_each {J : It} {g : TG} {tb : TS} (N : Nat) (Pv : Nat → St → Hp → Prop) (h0 : Pv 0 σ H)
    (hs : ∀ (i : Nat) σ H, i < N → Pv i σ H → J.go i H ∧ ∀ x H', J.yld i H x H' → g x σ H' fun σ2 H2 => tb ⟨Pv (i + 1), r, n, Pv (i + 1)⟩ σ2 H2) (hd : ∀ σ H, Pv N σ H → J.stop N H ∧ n σ H) :
    ∃ W : Nat → Nat → St → Hp → Prop, (∃ m, W 0 m σ H) ∧ ∀ i m σ H, W i m σ H →
    (J.stop i H ∧ n σ H) ∨ (J.go i H ∧ ∃ N : St → Hp → Prop, (∀ σ' H', N σ' H' → ∃ m', m' < m ∧ W (i + 1) m' σ' H') ∧ ∀ x H', J.yld i H x H' → g x σ H' fun σ2 H2 => tb ⟨N, r, n, N⟩ σ2 H2) := by
  refine ⟨fun i m σ H => i ≤ N ∧ m = N - i ∧ Pv i σ H, ⟨N, Nat.zero_le _, rfl, h0⟩, fun i m σ H ⟨hi, hm, hp⟩ => ?_⟩
  by_cases c : i < N
  · obtain ⟨h1, h2⟩ := hs i σ H c hp
    exact .inr ⟨h1, Pv (i + 1), fun σ' H' q => ⟨N - (i + 1), by omega, c, rfl, q⟩, h2⟩
  · have e : i = N := by omega
    subst e
    exact .inl (hd σ H hp)
/-- a for over a list -/
theorem r_eachL {g : TG} {tb : TS} {a : Addr} {xs : List V} (Pv : Nat → St → Hp → Prop) (h0 : Pv 0 σ H) (hl : ∀ i σ H, Pv i σ H → SqL K H a xs)
    (hs : ∀ (i : Nat) x σ H, xs[i]? = some x → Pv i σ H → g x σ H fun σ2 H2 => tb ⟨Pv (i + 1), r, n, Pv (i + 1)⟩ σ2 H2) (hd : ∀ σ H, Pv xs.length σ H → n σ H) :
    ∃ W : Nat → Nat → St → Hp → Prop, (∃ m, W 0 m σ H) ∧ ∀ i m σ H, W i m σ H →
    ((Itl K a).stop i H ∧ n σ H) ∨ ((Itl K a).go i H ∧ ∃ N : St → Hp → Prop, (∀ σ' H', N σ' H' → ∃ m', m' < m ∧ W (i + 1) m' σ' H') ∧ ∀ x H', (Itl K a).yld i H x H' → g x σ H' fun σ2 H2 => tb ⟨N, r, n, N⟩ σ2 H2) := by
  refine r_each xs.length Pv h0 (fun i σ H hi p => ⟨⟨xs, xs[i], hl i σ H p, List.getElem?_eq_getElem hi⟩, ?_⟩) fun σ H p => ⟨⟨xs, hl _ σ H p, Nat.le_refl _⟩, hd σ H p⟩
  rintro x _ ⟨rfl, e⟩
  exact hs i x σ _ (e xs (hl i σ _ p)) p
/-- .. a tuple -/
theorem r_eachT {g : TG} {tb : TS} {a : Addr} {xs : List V} (Pv : Nat → St → Hp → Prop) (h0 : Pv 0 σ H) (hl : ∀ i σ H, Pv i σ H → SqT K H a xs)
    (hs : ∀ (i : Nat) x σ H, xs[i]? = some x → Pv i σ H → g x σ H fun σ2 H2 => tb ⟨Pv (i + 1), r, n, Pv (i + 1)⟩ σ2 H2) (hd : ∀ σ H, Pv xs.length σ H → n σ H) :
    ∃ W : Nat → Nat → St → Hp → Prop, (∃ m, W 0 m σ H) ∧ ∀ i m σ H, W i m σ H →
    ((Itt K a).stop i H ∧ n σ H) ∨ ((Itt K a).go i H ∧ ∃ N : St → Hp → Prop, (∀ σ' H', N σ' H' → ∃ m', m' < m ∧ W (i + 1) m' σ' H') ∧ ∀ x H', (Itt K a).yld i H x H' → g x σ H' fun σ2 H2 => tb ⟨N, r, n, N⟩ σ2 H2) := by
  refine r_each xs.length Pv h0 (fun i σ H hi p => ⟨⟨xs, xs[i], hl i σ H p, List.getElem?_eq_getElem hi⟩, ?_⟩) fun σ H p => ⟨⟨xs, hl _ σ H p, Nat.le_refl _⟩, hd σ H p⟩
  rintro x _ ⟨rfl, e⟩
  exact hs i x σ _ (e xs (hl i σ _ p)) p
/-- .. with the numbers of the turns -/
theorem r_eachE {g : TG} {tb : TS} {a : Addr} {xs : List V} (Pv : Nat → St → Hp → Prop) (h0 : Pv 0 σ H) (hl : ∀ i σ H, Pv i σ H → SqL K H a xs)
    (hs : ∀ (i : Nat) x σ H T, xs[i]? = some x → Pv i σ H → H T = none → g (.ref T) σ (upd H T (.tup [.int (i : Nat), x])) fun σ2 H2 => tb ⟨Pv (i + 1), r, n, Pv (i + 1)⟩ σ2 H2) (hd : ∀ σ H, Pv xs.length σ H → n σ H) :
    ∃ W : Nat → Nat → St → Hp → Prop, (∃ m, W 0 m σ H) ∧ ∀ i m σ H, W i m σ H →
    ((Ite K a).stop i H ∧ n σ H) ∨ ((Ite K a).go i H ∧ ∃ N : St → Hp → Prop, (∀ σ' H', N σ' H' → ∃ m', m' < m ∧ W (i + 1) m' σ' H') ∧ ∀ x H', (Ite K a).yld i H x H' → g x σ H' fun σ2 H2 => tb ⟨N, r, n, N⟩ σ2 H2) := by
  refine r_each xs.length Pv h0 (fun i σ H hi p => ⟨⟨xs, xs[i], hl i σ H p, List.getElem?_eq_getElem hi⟩, ?_⟩) fun σ H p => ⟨⟨xs, hl _ σ H p, Nat.le_refl _⟩, hd σ H p⟩
  rintro _ _ ⟨T, x, rfl, hT, rfl, e⟩
  exact hs i x σ _ T (e xs (hl i σ _ p)) p hT
theorem r_eachET {g : TG} {tb : TS} {a : Addr} {xs : List V} (Pv : Nat → St → Hp → Prop) (h0 : Pv 0 σ H) (hl : ∀ i σ H, Pv i σ H → SqT K H a xs)
    (hs : ∀ (i : Nat) x σ H T, xs[i]? = some x → Pv i σ H → H T = none → g (.ref T) σ (upd H T (.tup [.int (i : Nat), x])) fun σ2 H2 => tb ⟨Pv (i + 1), r, n, Pv (i + 1)⟩ σ2 H2) (hd : ∀ σ H, Pv xs.length σ H → n σ H) :
    ∃ W : Nat → Nat → St → Hp → Prop, (∃ m, W 0 m σ H) ∧ ∀ i m σ H, W i m σ H →
    ((Itet K a xs).stop i H ∧ n σ H) ∨ ((Itet K a xs).go i H ∧ ∃ N : St → Hp → Prop, (∀ σ' H', N σ' H' → ∃ m', m' < m ∧ W (i + 1) m' σ' H') ∧ ∀ x H', (Itet K a xs).yld i H x H' → g x σ H' fun σ2 H2 => tb ⟨N, r, n, N⟩ σ2 H2) := by
  refine r_each xs.length Pv h0 (fun i σ H hi p => ⟨⟨hl i σ H p, hi⟩, ?_⟩) fun σ H p => ⟨⟨hl _ σ H p, Nat.le_refl _⟩, hd σ H p⟩
  rintro _ _ ⟨T, x, rfl, hT, rfl, e⟩
  exact hs i x σ _ T e p hT
/-- .. of range(i, j, c) -/
theorem r_eachR {g : TG} {tb : TS} {i0 j0 c0 : Int} (k : Nat) (hc : RgC i0 j0 c0 k) (Pv : Nat → St → Hp → Prop) (h0 : Pv 0 σ H)
    (hs : ∀ (i : Nat) σ H, i < k → Pv i σ H → g (.int (i0 + i * c0)) σ H fun σ2 H2 => tb ⟨Pv (i + 1), r, n, Pv (i + 1)⟩ σ2 H2) (hd : ∀ σ H, Pv k σ H → n σ H) :
    RgC i0 j0 c0 k ∧ ∃ W : Nat → Nat → St → Hp → Prop, (∃ m, W 0 m σ H) ∧ ∀ i m σ H, W i m σ H →
    ((Itc i0 c0 k).stop i H ∧ n σ H) ∨ ((Itc i0 c0 k).go i H ∧ ∃ N : St → Hp → Prop, (∀ σ' H', N σ' H' → ∃ m', m' < m ∧ W (i + 1) m' σ' H') ∧ ∀ x H', (Itc i0 c0 k).yld i H x H' → g x σ H' fun σ2 H2 => tb ⟨N, r, n, N⟩ σ2 H2) := by
  refine ⟨hc, r_each k Pv h0 (fun i σ H hi p => ⟨hi, ?_⟩) fun σ H p => ⟨Nat.le_refl _, hd σ H p⟩⟩
  rintro _ _ ⟨rfl, rfl⟩
  exact hs i σ _ hi p
theorem r_rng2 {ta : TA} {R : It → Hp → Prop} (h : ta σ H fun vs H1 => ∃ i j : Int, vs = [.int i, .int j] ∧ (-(2 ^ 62) ≤ i ∧ i < 2 ^ 62 ∧ -(2 ^ 62) ≤ j ∧ j < 2 ^ 62) ∧ R (Itr i (j - i).toNat) H1) : iRng2 ta σ H R := h
theorem r_rng3 {ta : TA} {R : It → Hp → Prop} (h : ta σ H fun vs H1 => ∃ (i j c : Int) (n : Nat), vs = [.int i, .int j, .int c] ∧ RgC i j c n ∧ R (Itc i c n) H1) : iRng3 ta σ H R := h
theorem r_itL {tl : TE} {R : It → Hp → Prop} (h : tl σ H fun x H1 => ∃ a, x = .ref a ∧ (∃ xs, SqL K H1 a xs) ∧ R (Itl K a) H1) : iList K tl σ H R := h
theorem r_itT {tl : TE} {R : It → Hp → Prop} (h : tl σ H fun x H1 => ∃ a, x = .ref a ∧ (∃ xs, SqT K H1 a xs) ∧ R (Itt K a) H1) : iTup K tl σ H R := h
theorem r_itE {ta : TA} {R : It → Hp → Prop} (h : ta σ H fun vs H1 => ∃ a xs, vs = [.ref a] ∧ SqL K H1 a xs ∧ R (Ite K a) H1) : iEnum K ta σ H R := h
theorem r_itET {ta : TA} {R : It → Hp → Prop} (h : ta σ H fun vs H1 => ∃ a xs, vs = [.ref a] ∧ SqT K H1 a xs ∧ R (Itet K a xs) H1) : iEnumT K ta σ H R := h
theorem r_eqB {i j : Bool} (h : Q (.bl (decide (i = j))) H) : rEq (.bl i) (.bl j) H Q := by
  have e : decide (V.bl i = V.bl j) = decide (i = j) := by simp
  exact ⟨rfl, by rw [e]; exact h⟩
theorem r_neB {i j : Bool} (h : Q (.bl (!decide (i = j))) H) : rNe (.bl i) (.bl j) H Q := by
  have e : decide (V.bl i = V.bl j) = decide (i = j) := by simp
  exact ⟨rfl, by rw [e]; exact h⟩
end
/-- an if whose test is known -/
theorem r_ifB {σ : St} {H : Hp} {D : Ends} {tt : TT} {t u : TS} (b : Bool) (ht : ∀ R : Bool → Hp → Prop, R b H → tt σ H R) (h : if b = true then t D σ H else u D σ H) : tIfS tt t u D σ H := ht _ h

/-! ### an attribute as a target among others -/
section
variable {X : Cx} {o : Expr} {ta : TE} {f : Str} {pos : Pos}
def gFld (K : PySem.W.Frag) (ta : TE) (f : Str) : TG := fun v σ H R => ta σ H fun x H1 => ∃ a C dx fs, x = .ref a ∧ H1 a = some (.ins C dx fs) ∧ Cls K C ∧ NoAttr K C f ∧ fs.length < 1000 ∧ R σ (upd H1 a (.ins C dx (putF f v fs)))
theorem pg_fld (ha : PE X o ta) : PG X (.Attribute o f pos) (gFld X.K ta f) := by
  refine ⟨fun pins s σ H v u Q I r h => ?_⟩
  rw [assign_Attribute]
  refine wpAny_bind (wpAny_holding (thn (ha.run pins s σ H _ I h) fun ov s2 ⟨x, H2, I2, rx, a, C, dx, fs, ex, ea, c, n, l, q2⟩ => ?_))
  subst ex
  obtain rfl : ov = Value.ref a := rx
  refine wpAny_bind (wpAny_standAt (wpAny_bind (wpAny_holding ?_)))
  exact setattr_ok I2 ea c n l r fun s3 I3 => wpAny_release ⟨σ, _, I3, q2⟩
end

local macro_rules | `(tactic| walk_at "rv") => `(tactic| ((with_reducible apply r_var); (· rfl)))
local macro_rules | `(tactic| walk_at "rd1") => `(tactic| first
  | (with_reducible refine r_seq ?_)
  | (with_reducible refine r_asg ?_)
  | (with_reducible refine r_name ?_)
  | ((with_reducible apply r_var); (· rfl))
  | (with_reducible refine r_c ?_)
  | (with_reducible refine r_op ?_)
  | (with_reducible refine r_I0 ?_)
  | (with_reducible refine r_eqI ?_)
  | (with_reducible refine r_neI ?_)
  | (with_reducible refine r_eqS ?_)
  | (with_reducible refine r_neS ?_)
  | (with_reducible refine r_cons ?_)
  | (with_reducible refine r_nil ?_)
  | (with_reducible refine r_if ?_)
  | (with_reducible refine r_test ?_)
  | (with_reducible refine r_B ?_)
  | (with_reducible refine r_bl ?_)
  | (with_reducible refine r_ret ?_)
  | (with_reducible refine r_drop ?_)
  | (with_reducible refine r_un ?_)
  | (with_reducible refine r_U ?_)
  | (with_reducible refine r_CB ?_)
  | (with_reducible refine r_call ?_)
  | (with_reducible refine r_retN ?_)
  | (with_reducible refine r_next ?_)
  | (with_reducible refine r_brk ?_)
  | (with_reducible refine r_ifE ?_)
  | (with_reducible refine r_and ?_)
  | (with_reducible refine r_or ?_)
  | (with_reducible refine r_not ?_)
  | (with_reducible refine r_andV ?_)
  | (with_reducible refine r_orV ?_)
  | (with_reducible refine r_notV ?_)
  | (with_reducible refine r_chain ?_)
  | (with_reducible refine r_iteF ?_)
  | (with_reducible refine r_iteT ?_)
  | (with_reducible refine r_iteNT ?_)
  | (with_reducible refine r_iteNF ?_)
  | ((with_reducible apply r_I); (· first | decide | exact ⟨by decide, by decide⟩ | exact .inr ⟨by decide, by decide⟩ | exact .inl ⟨by decide, by decide⟩ | exact ⟨by decide, by decide, by decide⟩))
  | (with_reducible refine r_bm ?_)
  | (with_reducible refine r_bm0 ?_)
  | (with_reducible refine r_sub ?_)
  | (with_reducible refine r_yes ?_)
  | (with_reducible refine r_fld ?_)
  | (with_reducible refine r_sfld ?_)
  | (with_reducible refine r_meth ?_)
  | (with_reducible refine r_prop ?_)
  | (with_reducible refine r_make ?_)
  | (with_reducible refine r_gcons ?_)
  | (with_reducible refine r_gnil ?_)
  | (with_reducible refine r_rfl ?_)
  | (with_reducible refine r_for ?_)
  | (with_reducible refine r_rng1 ?_)
  | (with_reducible refine r_int1 ?_)
  | (with_reducible refine r_abs ?_)
  | (with_reducible refine r_tup ?_)
  | (with_reducible refine r_lst ?_))
local macro_rules | `(tactic| walk_at "rd") => `(tactic| repeat (walk_at "rd1"))
local macro_rules | `(tactic| walk_at "ri1") => `(tactic| first
  | (with_reducible refine r_seq ?_)
  | (with_reducible refine r_asg ?_)
  | (with_reducible refine r_name ?_)
  | ((with_reducible apply r_var); (· rfl))
  | (with_reducible refine r_c ?_)
  | (with_reducible refine r_op ?_)
  | (with_reducible refine r_I0 ?_)
  | (with_reducible refine r_eqI ?_)
  | (with_reducible refine r_neI ?_)
  | (with_reducible refine r_eqS ?_)
  | (with_reducible refine r_neS ?_)
  | (with_reducible refine r_cons ?_)
  | (with_reducible refine r_nil ?_)
  | (with_reducible refine r_test ?_)
  | (with_reducible refine r_B ?_)
  | (with_reducible refine r_bl ?_)
  | (with_reducible refine r_ret ?_)
  | (with_reducible refine r_drop ?_)
  | (with_reducible refine r_un ?_)
  | (with_reducible refine r_U ?_)
  | (with_reducible refine r_CB ?_)
  | (with_reducible refine r_call ?_)
  | (with_reducible refine r_retN ?_)
  | (with_reducible refine r_next ?_)
  | (with_reducible refine r_brk ?_)
  | (with_reducible refine r_ifE ?_)
  | (with_reducible refine r_and ?_)
  | (with_reducible refine r_or ?_)
  | (with_reducible refine r_not ?_)
  | (with_reducible refine r_andV ?_)
  | (with_reducible refine r_orV ?_)
  | (with_reducible refine r_notV ?_)
  | (with_reducible refine r_chain ?_)
  | (with_reducible refine r_iteF ?_)
  | (with_reducible refine r_iteT ?_)
  | (with_reducible refine r_iteNT ?_)
  | (with_reducible refine r_iteNF ?_)
  | ((with_reducible apply r_I); (· first | decide | exact ⟨by decide, by decide⟩ | exact .inr ⟨by decide, by decide⟩ | exact .inl ⟨by decide, by decide⟩ | exact ⟨by decide, by decide, by decide⟩))
  | (with_reducible refine r_bm ?_)
  | (with_reducible refine r_bm0 ?_)
  | (with_reducible refine r_sub ?_)
  | (with_reducible refine r_yes ?_)
  | (with_reducible refine r_fld ?_)
  | (with_reducible refine r_sfld ?_)
  | (with_reducible refine r_meth ?_)
  | (with_reducible refine r_prop ?_)
  | (with_reducible refine r_make ?_)
  | (with_reducible refine r_gcons ?_)
  | (with_reducible refine r_gnil ?_)
  | (with_reducible refine r_rfl ?_)
  | (with_reducible refine r_for ?_)
  | (with_reducible refine r_rng1 ?_)
  | (with_reducible refine r_int1 ?_)
  | (with_reducible refine r_abs ?_)
  | (with_reducible refine r_tup ?_)
  | (with_reducible refine r_lst ?_))
local macro_rules | `(tactic| walk_at "ri") => `(tactic| repeat (walk_at "ri1"))

abbrev C_Unwritable (K : Frg) : Addr := He.ga K "Unwritable"
abbrev C_AlikeError (K : Frg) : Addr := He.ga K "AlikeError"
abbrev C_Unreadable (K : Frg) : Addr := He.ga K "Unreadable"
abbrev C_Doubled (K : Frg) : Addr := He.ga K "Doubled"
structure Nm (K : Frg) (mg : Str → Option Value) : Prop where
  divmod : mg "divmod" = none
  str : mg "str" = none
  reversed : mg "reversed" = none
  abs : mg "abs" = none
  len : mg "len" = none
  list : mg "list" = none
  range : mg "range" = none
  tuple : mg "tuple" = none
  enumerate : mg "enumerate" = none
  int : mg "int" = none
  sorted : mg "sorted" = none
  isinstance : mg "isinstance" = none
  bool : mg "bool" = none
  ord : mg "ord" = none
  g_PIECE : ∃ u, mg "PIECE" = some u ∧ RelV (.int 10000000000000000000000000000000000000000000000000000000000000000) u
  g_PIECE_DIGITS : ∃ u, mg "PIECE_DIGITS" = some u ∧ RelV (.int 64) u
  g_COLON : ∃ u, mg "COLON" = some u ∧ RelV (.int 58) u
  g_MARKS : ∃ v u, mg "MARKS" = some u ∧ RelV v u ∧ ∀ H, Dp K H v (.tuple [.int 0, .int 192, .int 224, .int 240])
  g_LARGEST_EXPONENT : ∃ u, mg "LARGEST_EXPONENT" = some u ∧ RelV (.int 800) u
  g_SMALL_E : ∃ u, mg "SMALL_E" = some u ∧ RelV (.int 101) u
  g_SMALL_L : ∃ u, mg "SMALL_L" = some u ∧ RelV (.int 108) u
  g_SMALL_D : ∃ u, mg "SMALL_D" = some u ∧ RelV (.int 100) u
  g_Unwritable : mg "Unwritable" = some (.ref (C_Unwritable K))
  x_Unwritable : ExcK K (C_Unwritable K) (meAd "AlikeError" "__init__" K) "what"
  g_AlikeError : mg "AlikeError" = some (.ref (C_AlikeError K))
  x_AlikeError : ExcK K (C_AlikeError K) (meAd "AlikeError" "__init__" K) "what"
  g_Unreadable : mg "Unreadable" = some (.ref (C_Unreadable K))
  x_Unreadable : ExcK K (C_Unreadable K) (meAd "AlikeError" "__init__" K) "what"
  g_Doubled : mg "Doubled" = some (.ref (C_Doubled K))
  x_Doubled : ExcK K (C_Doubled K) (meAd "AlikeError" "__init__" K) "what"
  y_Unwritable : IsxC K (C_Unwritable K)
  e_Unwritable_AlikeError : PySem.W.exmOne K (.ref (C_Unwritable K)) (.ref (C_AlikeError K)) = some true
  i_Unwritable_Unreadable : PySem.W.kitOne K (.ref (C_Unwritable K)) (.ref (C_Unreadable K)) = some false
  i_Unwritable_Doubled : PySem.W.kitOne K (.ref (C_Unwritable K)) (.ref (C_Doubled K)) = some false
  i_Unwritable_Unwritable : PySem.W.kitOne K (.ref (C_Unwritable K)) (.ref (C_Unwritable K)) = some true
  f_is_lacking : mg "is_lacking" = some (.ref (glAd "is_lacking" K))
  dig : DigK K

abbrev s_is_lacking : Stmt := (top 20)
theorem sc_is_lacking : FnScope ["value"] ["value"] (defScope s_is_lacking) := ⟨rfl, rfl, rfl, by decide +kernel, rfl, by decide +kernel, by decide +kernel⟩
abbrev s_parts : Stmt := (top 29)
theorem sc_parts : FnScope ["value", "entry"] ["value"] (defScope s_parts) := ⟨rfl, rfl, rfl, by decide +kernel, rfl, by decide +kernel, by decide +kernel⟩
abbrev s_walk : Stmt := (top 30)
theorem sc_walk : GScope ["value", "waiting", "found"] ["value"] (defScope s_walk) := ⟨rfl, rfl, rfl, by decide +kernel, rfl, by decide +kernel, by decide +kernel⟩
abbrev s_first_lacking : Stmt := (top 32)
theorem sc_first_lacking : FnScope ["value", "is_lacking", "index", "found"] ["value", "is_lacking"] (defScope s_first_lacking) := ⟨rfl, rfl, rfl, by decide +kernel, rfl, by decide +kernel, by decide +kernel⟩
abbrev s_bencode_lacks : Stmt := (top 36)
theorem sc_bencode_lacks : FnScope ["value"] ["value"] (defScope s_bencode_lacks) := ⟨rfl, rfl, rfl, by decide +kernel, rfl, by decide +kernel, by decide +kernel⟩
abbrev s__law_cell : Stmt := (top 39)
theorem sc__law_cell : FnScope ["script", "k"] ["script", "k"] (defScope s__law_cell) := ⟨rfl, rfl, rfl, by decide +kernel, rfl, by decide +kernel, by decide +kernel⟩
abbrev s__law_numbers : Stmt := (top 40)
theorem sc__law_numbers : FnScope ["cell", "many", "rest", "size", "numbers", "k", "mixed"] ["cell", "many"] (defScope s__law_numbers) := ⟨rfl, rfl, rfl, by decide +kernel, rfl, by decide +kernel, by decide +kernel⟩
abbrev s__law_state : Stmt := (top 41)
theorem sc__law_state : FnScope ["script", "left", "numbers", "k", "parted"] ["script", "left"] (defScope s__law_state) := ⟨rfl, rfl, rfl, by decide +kernel, rfl, by decide +kernel, by decide +kernel⟩
abbrev s__law_next : Stmt := (top 42)
theorem sc__law_next : FnScope ["state", "many", "at"] ["state", "many"] (defScope s__law_next) := ⟨rfl, rfl, rfl, by decide +kernel, rfl, by decide +kernel, by decide +kernel⟩
abbrev s__law_many : Stmt := (top 43)
theorem sc__law_many : FnScope ["state", "most"] ["state", "most"] (defScope s__law_many) := ⟨rfl, rfl, rfl, by decide +kernel, rfl, by decide +kernel, by decide +kernel⟩
abbrev s__law_points : Stmt := (top 47)
theorem sc__law_points : FnScope ["state", "menu", "points", "k", "pick", "point"] ["state"] (defScope s__law_points) := ⟨rfl, rfl, rfl, by decide +kernel, rfl, by decide +kernel, by decide +kernel⟩
abbrev s__law_big : Stmt := (top 44)
theorem sc__law_big : FnScope ["state", "many", "cell"] ["state", "many"] (defScope s__law_big) := ⟨rfl, rfl, rfl, by decide +kernel, rfl, by decide +kernel, by decide +kernel⟩
abbrev s__law_normal : Stmt := (top 45)
theorem sc__law_normal : FnScope ["m", "e", "k"] ["m", "e"] (defScope s__law_normal) := ⟨rfl, rfl, rfl, by decide +kernel, rfl, by decide +kernel, by decide +kernel⟩
abbrev s__law_number : Stmt := (top 46)
theorem sc__law_number : FnScope ["state", "is_far", "pick", "sign", "m", "e", "edge", "power_v", "k"] ["state", "is_far"] (defScope s__law_number) := ⟨rfl, rfl, rfl, by decide +kernel, rfl, by decide +kernel, by decide +kernel⟩
abbrev s__law_octets : Stmt := (top 48)
theorem sc__law_octets : FnScope ["state", "many", "low", "span", "k"] ["state"] (defScope s__law_octets) := ⟨rfl, rfl, rfl, by decide +kernel, rfl, by decide +kernel, by decide +kernel⟩
abbrev s__law_leaf : Stmt := (top 49)
theorem sc__law_leaf : FnScope ["state", "kinds", "kind"] ["state", "kinds"] (defScope s__law_leaf) := ⟨rfl, rfl, rfl, by decide +kernel, rfl, by decide +kernel, by decide +kernel⟩
abbrev s__law_value : Stmt := (top 50)
theorem sc__law_value : FnScope ["state", "deep", "kinds", "has_maps", "pick", "many", "k", "entries", "key", "entry"] ["state", "deep", "kinds", "has_maps"] (defScope s__law_value) := ⟨rfl, rfl, rfl, by decide +kernel, rfl, by decide +kernel, by decide +kernel⟩
abbrev s__law_towered : Stmt := (top 51)
theorem sc__law_towered : FnScope ["state", "value", "has_maps", "k", "pick"] ["state", "value", "has_maps"] (defScope s__law_towered) := ⟨rfl, rfl, rfl, by decide +kernel, rfl, by decide +kernel, by decide +kernel⟩
abbrev s__law_walk : Stmt := (top 52)
theorem sc__law_walk : FnScope ["value", "found", "item", "entry"] ["value"] (defScope s__law_walk) := ⟨rfl, rfl, rfl, by decide +kernel, rfl, by decide +kernel, by decide +kernel⟩
abbrev s__law_same : Stmt := (top 55)
theorem sc__law_same : FnScope ["told", "due", "k"] ["told", "due"] (defScope s__law_same) := ⟨rfl, rfl, rfl, by decide +kernel, rfl, by decide +kernel, by decide +kernel⟩
abbrev s__law_utf8 : Stmt := (top 54)
theorem sc__law_utf8 : FnScope ["points", "octets", "point"] ["points"] (defScope s__law_utf8) := ⟨rfl, rfl, rfl, by decide +kernel, rfl, by decide +kernel, by decide +kernel⟩
abbrev s__law_ascii : Stmt := (top 53)
theorem sc__law_ascii : FnScope ["text", "char"] ["text"] (defScope s__law_ascii) := ⟨rfl, rfl, rfl, by decide +kernel, rfl, by decide +kernel, by decide +kernel⟩
abbrev s__law_string : Stmt := (top 56)
theorem sc__law_string : FnScope ["octets"] ["octets"] (defScope s__law_string) := ⟨rfl, rfl, rfl, by decide +kernel, rfl, by decide +kernel, by decide +kernel⟩
abbrev s__law_leaf_written : Stmt := (top 57)
theorem sc__law_leaf_written : FnScope ["value"] ["value"] (defScope s__law_leaf_written) := ⟨rfl, rfl, rfl, by decide +kernel, rfl, by decide +kernel, by decide +kernel⟩
abbrev s__law_written : Stmt := (top 58)
theorem sc__law_written : FnScope ["value", "found", "item", "keyed", "octets", "entry"] ["value"] (defScope s__law_written) := ⟨rfl, rfl, rfl, by decide +kernel, rfl, by decide +kernel, by decide +kernel⟩
abbrev s__law_lacks : Stmt := (top 59)
theorem sc__law_lacks : FnScope ["value"] ["value"] (defScope s__law_lacks) := ⟨rfl, rfl, rfl, by decide +kernel, rfl, by decide +kernel, by decide +kernel⟩
abbrev s__law_kinds : Stmt := (top 60)
theorem sc__law_kinds : FnScope ["state", "odd"] ["state"] (defScope s__law_kinds) := ⟨rfl, rfl, rfl, by decide +kernel, rfl, by decide +kernel, by decide +kernel⟩
abbrev s_AlikeError___init__ : Stmt := (inClass (top 24) 0)
theorem sc_AlikeError___init__ : FnScope ["self", "what"] ["self", "what"] (defScope s_AlikeError___init__) := ⟨rfl, rfl, rfl, by decide +kernel, rfl, by decide +kernel, by decide +kernel⟩
abbrev s_check_writable : Stmt := (top 33)
theorem sc_check_writable : FnScope ["value", "is_lacking", "index"] ["value", "is_lacking"] (defScope s_check_writable) := ⟨rfl, rfl, rfl, by decide +kernel, rfl, by decide +kernel, by decide +kernel⟩
abbrev s_power : Stmt := (top 7)
theorem sc_power : FnScope ["base", "many", "worth"] ["base", "many"] (defScope s_power) := ⟨rfl, rfl, rfl, by decide +kernel, rfl, by decide +kernel, by decide +kernel⟩
abbrev s_whole : Stmt := (top 8)
theorem sc_whole : FnScope ["m", "e", "most"] ["m", "e", "most"] (defScope s_whole) := ⟨rfl, rfl, rfl, by decide +kernel, rfl, by decide +kernel, by decide +kernel⟩
abbrev s_digits_of : Stmt := (top 9)
theorem sc_digits_of : FnScope ["n", "pieces", "piece"] ["n"] (defScope s_digits_of) := ⟨rfl, rfl, rfl, by decide +kernel, rfl, by decide +kernel, by decide +kernel⟩
abbrev s_signed_digits : Stmt := (top 10)
theorem sc_signed_digits : FnScope ["n", "sign"] ["n"] (defScope s_signed_digits) := ⟨rfl, rfl, rfl, by decide +kernel, rfl, by decide +kernel, by decide +kernel⟩
abbrev s_in_ascii : Stmt := (top 13)
theorem sc_in_ascii : FnScope ["string", "character"] ["string"] (defScope s_in_ascii) := ⟨rfl, rfl, rfl, by decide +kernel, rfl, by decide +kernel, by decide +kernel⟩
abbrev s_with_count : Stmt := (top 14)
theorem sc_with_count : FnScope ["octets"] ["octets"] (defScope s_with_count) := ⟨rfl, rfl, rfl, by decide +kernel, rfl, by decide +kernel, by decide +kernel⟩
abbrev s_leaf_octets : Stmt := (top 21)
theorem sc_leaf_octets : FnScope ["value", "integer"] ["value"] (defScope s_leaf_octets) := ⟨rfl, rfl, rfl, by decide +kernel, rfl, by decide +kernel, by decide +kernel⟩
abbrev s__encode_long : Stmt := (top 18)
theorem sc__encode_long : FnScope ["point", "many", "octets", "shift"] ["point"] (defScope s__encode_long) := ⟨rfl, rfl, rfl, by decide +kernel, rfl, by decide +kernel, by decide +kernel⟩
abbrev s_encode : Stmt := (top 17)
theorem sc_encode : FnScope ["points", "octets", "point"] ["points"] (defScope s_encode) := ⟨rfl, rfl, rfl, by decide +kernel, rfl, by decide +kernel, by decide +kernel⟩
abbrev s_key_octets : Stmt := (top 22)
theorem sc_key_octets : FnScope ["key"] ["key"] (defScope s_key_octets) := ⟨rfl, rfl, rfl, by decide +kernel, rfl, by decide +kernel, by decide +kernel⟩
abbrev s__octets_of : Stmt := (top 37)
theorem sc__octets_of : FnScope ["value", "octets", "item", "key", "part"] ["value"] (defScope s__octets_of) := ⟨rfl, rfl, rfl, by decide +kernel, rfl, by decide +kernel, by decide +kernel⟩
abbrev s_write_bencode : Stmt := (top 35)
theorem sc_write_bencode : FnScope ["value"] ["value"] (defScope s_write_bencode) := ⟨rfl, rfl, rfl, by decide +kernel, rfl, by decide +kernel, by decide +kernel⟩
abbrev s__law_told : Stmt := (top 61)
theorem sc__law_told : FnScope ["value", "e"] ["value"] (defScope s__law_told) := ⟨rfl, rfl, rfl, by decide +kernel, rfl, by decide +kernel, by decide +kernel⟩
abbrev s_law : Stmt := (top 62)
theorem sc_law : FnScope ["script", "state", "kinds", "value", "rows", "due", "index", "written", "told", "k"] ["script"] (defScope s_law) := ⟨rfl, rfl, rfl, by decide +kernel, rfl, by decide +kernel, by decide +kernel⟩
def d_is_lacking : DefM := { ad := glAd "is_lacking", nm := "is_lacking", ql := "is_lacking", pa := defArgs s_is_lacking, bo := defBody s_is_lacking, sc := defScope s_is_lacking }
def d_parts : DefM := { ad := glAd "parts", nm := "parts", ql := "parts", pa := defArgs s_parts, bo := defBody s_parts, sc := defScope s_parts }
def d_walk : DefM := { ad := glAd "walk", nm := "walk", ql := "walk", pa := defArgs s_walk, bo := defBody s_walk, sc := defScope s_walk }
def d_first_lacking : DefM := { ad := glAd "first_lacking", nm := "first_lacking", ql := "first_lacking", pa := defArgs s_first_lacking, bo := defBody s_first_lacking, sc := defScope s_first_lacking }
def d_bencode_lacks : DefM := { ad := glAd "bencode_lacks", nm := "bencode_lacks", ql := "bencode_lacks", pa := defArgs s_bencode_lacks, bo := defBody s_bencode_lacks, sc := defScope s_bencode_lacks }
def d__law_cell : DefM := { ad := glAd "_law_cell", nm := "_law_cell", ql := "_law_cell", pa := defArgs s__law_cell, bo := defBody s__law_cell, sc := defScope s__law_cell }
def d__law_numbers : DefM := { ad := glAd "_law_numbers", nm := "_law_numbers", ql := "_law_numbers", pa := defArgs s__law_numbers, bo := defBody s__law_numbers, sc := defScope s__law_numbers }
def d__law_state : DefM := { ad := glAd "_law_state", nm := "_law_state", ql := "_law_state", pa := defArgs s__law_state, bo := defBody s__law_state, sc := defScope s__law_state }
def d__law_next : DefM := { ad := glAd "_law_next", nm := "_law_next", ql := "_law_next", pa := defArgs s__law_next, bo := defBody s__law_next, sc := defScope s__law_next }
def d__law_many : DefM := { ad := glAd "_law_many", nm := "_law_many", ql := "_law_many", pa := defArgs s__law_many, bo := defBody s__law_many, sc := defScope s__law_many }
def d__law_points : DefM := { ad := glAd "_law_points", nm := "_law_points", ql := "_law_points", pa := defArgs s__law_points, bo := defBody s__law_points, sc := defScope s__law_points }
def d__law_big : DefM := { ad := glAd "_law_big", nm := "_law_big", ql := "_law_big", pa := defArgs s__law_big, bo := defBody s__law_big, sc := defScope s__law_big }
def d__law_normal : DefM := { ad := glAd "_law_normal", nm := "_law_normal", ql := "_law_normal", pa := defArgs s__law_normal, bo := defBody s__law_normal, sc := defScope s__law_normal }
def d__law_number : DefM := { ad := glAd "_law_number", nm := "_law_number", ql := "_law_number", pa := defArgs s__law_number, bo := defBody s__law_number, sc := defScope s__law_number }
def d__law_octets : DefM := { ad := glAd "_law_octets", nm := "_law_octets", ql := "_law_octets", pa := defArgs s__law_octets, bo := defBody s__law_octets, sc := defScope s__law_octets }
def d__law_leaf : DefM := { ad := glAd "_law_leaf", nm := "_law_leaf", ql := "_law_leaf", pa := defArgs s__law_leaf, bo := defBody s__law_leaf, sc := defScope s__law_leaf }
def d__law_value : DefM := { ad := glAd "_law_value", nm := "_law_value", ql := "_law_value", pa := defArgs s__law_value, bo := defBody s__law_value, sc := defScope s__law_value }
def d__law_towered : DefM := { ad := glAd "_law_towered", nm := "_law_towered", ql := "_law_towered", pa := defArgs s__law_towered, bo := defBody s__law_towered, sc := defScope s__law_towered }
def d__law_walk : DefM := { ad := glAd "_law_walk", nm := "_law_walk", ql := "_law_walk", pa := defArgs s__law_walk, bo := defBody s__law_walk, sc := defScope s__law_walk }
def d__law_same : DefM := { ad := glAd "_law_same", nm := "_law_same", ql := "_law_same", pa := defArgs s__law_same, bo := defBody s__law_same, sc := defScope s__law_same }
def d__law_utf8 : DefM := { ad := glAd "_law_utf8", nm := "_law_utf8", ql := "_law_utf8", pa := defArgs s__law_utf8, bo := defBody s__law_utf8, sc := defScope s__law_utf8 }
def d__law_ascii : DefM := { ad := glAd "_law_ascii", nm := "_law_ascii", ql := "_law_ascii", pa := defArgs s__law_ascii, bo := defBody s__law_ascii, sc := defScope s__law_ascii }
def d__law_string : DefM := { ad := glAd "_law_string", nm := "_law_string", ql := "_law_string", pa := defArgs s__law_string, bo := defBody s__law_string, sc := defScope s__law_string }
def d__law_leaf_written : DefM := { ad := glAd "_law_leaf_written", nm := "_law_leaf_written", ql := "_law_leaf_written", pa := defArgs s__law_leaf_written, bo := defBody s__law_leaf_written, sc := defScope s__law_leaf_written }
def d__law_written : DefM := { ad := glAd "_law_written", nm := "_law_written", ql := "_law_written", pa := defArgs s__law_written, bo := defBody s__law_written, sc := defScope s__law_written }
def d__law_lacks : DefM := { ad := glAd "_law_lacks", nm := "_law_lacks", ql := "_law_lacks", pa := defArgs s__law_lacks, bo := defBody s__law_lacks, sc := defScope s__law_lacks }
def d__law_kinds : DefM := { ad := glAd "_law_kinds", nm := "_law_kinds", ql := "_law_kinds", pa := defArgs s__law_kinds, bo := defBody s__law_kinds, sc := defScope s__law_kinds }
def d_AlikeError___init__ : DefM := { ad := meAd "AlikeError" "__init__", nm := "__init__", ql := "AlikeError.__init__", pa := defArgs s_AlikeError___init__, bo := defBody s_AlikeError___init__, sc := defScope s_AlikeError___init__, df := [.non] }
def d_check_writable : DefM := { ad := glAd "check_writable", nm := "check_writable", ql := "check_writable", pa := defArgs s_check_writable, bo := defBody s_check_writable, sc := defScope s_check_writable }
def d_power : DefM := { ad := glAd "power", nm := "power", ql := "power", pa := defArgs s_power, bo := defBody s_power, sc := defScope s_power }
def d_whole : DefM := { ad := glAd "whole", nm := "whole", ql := "whole", pa := defArgs s_whole, bo := defBody s_whole, sc := defScope s_whole }
def d_digits_of : DefM := { ad := glAd "digits_of", nm := "digits_of", ql := "digits_of", pa := defArgs s_digits_of, bo := defBody s_digits_of, sc := defScope s_digits_of }
def d_signed_digits : DefM := { ad := glAd "signed_digits", nm := "signed_digits", ql := "signed_digits", pa := defArgs s_signed_digits, bo := defBody s_signed_digits, sc := defScope s_signed_digits }
def d_in_ascii : DefM := { ad := glAd "in_ascii", nm := "in_ascii", ql := "in_ascii", pa := defArgs s_in_ascii, bo := defBody s_in_ascii, sc := defScope s_in_ascii }
def d_with_count : DefM := { ad := glAd "with_count", nm := "with_count", ql := "with_count", pa := defArgs s_with_count, bo := defBody s_with_count, sc := defScope s_with_count }
def d_leaf_octets : DefM := { ad := glAd "leaf_octets", nm := "leaf_octets", ql := "leaf_octets", pa := defArgs s_leaf_octets, bo := defBody s_leaf_octets, sc := defScope s_leaf_octets }
def d__encode_long : DefM := { ad := glAd "_encode_long", nm := "_encode_long", ql := "_encode_long", pa := defArgs s__encode_long, bo := defBody s__encode_long, sc := defScope s__encode_long }
def d_encode : DefM := { ad := glAd "encode", nm := "encode", ql := "encode", pa := defArgs s_encode, bo := defBody s_encode, sc := defScope s_encode }
def d_key_octets : DefM := { ad := glAd "key_octets", nm := "key_octets", ql := "key_octets", pa := defArgs s_key_octets, bo := defBody s_key_octets, sc := defScope s_key_octets }
def d__octets_of : DefM := { ad := glAd "_octets_of", nm := "_octets_of", ql := "_octets_of", pa := defArgs s__octets_of, bo := defBody s__octets_of, sc := defScope s__octets_of }
def d_write_bencode : DefM := { ad := glAd "write_bencode", nm := "write_bencode", ql := "write_bencode", pa := defArgs s_write_bencode, bo := defBody s_write_bencode, sc := defScope s_write_bencode }
def d__law_told : DefM := { ad := glAd "_law_told", nm := "_law_told", ql := "_law_told", pa := defArgs s__law_told, bo := defBody s__law_told, sc := defScope s__law_told }
def d_law : DefM := { ad := glAd "law", nm := "law", ql := "law", pa := defArgs s_law, bo := defBody s_law, sc := defScope s_law }
def fn : List DefM := [d_is_lacking, d_parts, d_walk, d_first_lacking, d_bencode_lacks, d__law_cell, d__law_numbers, d__law_state, d__law_next, d__law_many, d__law_points, d__law_big, d__law_normal, d__law_number, d__law_octets, d__law_leaf, d__law_value, d__law_towered, d__law_walk, d__law_same, d__law_utf8, d__law_ascii, d__law_string, d__law_leaf_written, d__law_written, d__law_lacks, d__law_kinds, d_AlikeError___init__, d_check_writable, d_power, d_whole, d_digits_of, d_signed_digits, d_in_ascii, d_with_count, d_leaf_octets, d__encode_long, d_encode, d_key_octets, d__octets_of, d_write_bencode, d__law_told, d_law]
def fa : List He.Fa := [.glo "is_lacking", .glo "parts", .glo "walk", .glo "first_lacking", .glo "bencode_lacks", .glo "_law_cell", .glo "_law_numbers", .glo "_law_state", .glo "_law_next", .glo "_law_many", .glo "_law_points", .glo "_law_big", .glo "_law_normal", .glo "_law_number", .glo "_law_octets", .glo "_law_leaf", .glo "_law_value", .glo "_law_towered", .glo "_law_walk", .glo "_law_same", .glo "_law_utf8", .glo "_law_ascii", .glo "_law_string", .glo "_law_leaf_written", .glo "_law_written", .glo "_law_lacks", .glo "_law_kinds", .glo "check_writable", .glo "power", .glo "whole", .glo "digits_of", .glo "signed_digits", .glo "in_ascii", .glo "with_count", .glo "leaf_octets", .glo "_encode_long", .glo "encode", .glo "key_octets", .glo "_octets_of", .glo "write_bencode", .glo "_law_told", .glo "law", .free "divmod", .free "str", .free "reversed", .free "abs", .free "len", .free "list", .free "range", .free "tuple", .free "enumerate", .free "int", .free "sorted", .free "isinstance", .free "bool", .free "ord", .int "PIECE" 10000000000000000000000000000000000000000000000000000000000000000, .int "PIECE_DIGITS" 64, .int "COLON" 58, .int "LARGEST_EXPONENT" 800, .int "SMALL_E" 101, .int "SMALL_L" 108, .int "SMALL_D" 100, .glo "Unwritable", .glo "AlikeError", .glo "Unreadable", .glo "Doubled", .glo "is_lacking"]
def ex (K : Frg) : Bool := conB K "MARKS" (.tuple [.int 0, .int 192, .int 224, .int 240]) && (exkB K (He.ga K "Unwritable") (meAd "AlikeError" "__init__" K) "what" && (exkB K (He.ga K "AlikeError") (meAd "AlikeError" "__init__" K) "what" && (exkB K (He.ga K "Unreadable") (meAd "AlikeError" "__init__" K) "what" && (exkB K (He.ga K "Doubled") (meAd "AlikeError" "__init__" K) "what" && (isxB K (He.ga K "Unwritable") && (decide (PySem.W.exmOne K (.ref (He.ga K "Unwritable")) (.ref (He.ga K "AlikeError")) = some true) && (decide (PySem.W.kitOne K (.ref (He.ga K "Unwritable")) (.ref (He.ga K "Unreadable")) = some false) && (decide (PySem.W.kitOne K (.ref (He.ga K "Unwritable")) (.ref (He.ga K "Doubled")) = some false) && (decide (PySem.W.kitOne K (.ref (He.ga K "Unwritable")) (.ref (He.ga K "Unwritable")) = some true) && (digB K))))))))))
abbrev RR : PySem.W.OpenRow := PySem.W.OpenLaw.row PySem.Challenge.rw_formsalike_k36_bencode_written
def loose : List PySem.Str := (["SMALL_D", "SMALL_E", "SMALL_L", "LARGEST_EXPONENT", "PIECE_DIGITS", "PIECE", "power", "whole", "digits_of", "signed_digits", "COLON", "in_ascii", "with_count", "MARKS", "encode", "_encode_long", "is_lacking", "leaf_octets", "key_octets", "AlikeError", "Unreadable", "Unwritable", "Doubled", "parts", "walk", "first_lacking", "check_writable", "write_bencode", "bencode_lacks", "_octets_of"] : List PySem.Str) ++ (["_law_cell", "_law_numbers", "_law_state", "_law_next", "_law_many", "_law_big", "_law_normal", "_law_number", "_law_points", "_law_octets", "_law_leaf", "_law_value", "_law_towered", "_law_walk", "_law_ascii", "_law_utf8", "_law_same", "_law_string", "_law_leaf_written", "_law_written", "_law_lacks", "_law_kinds", "_law_told"] : List PySem.Str)
abbrev hk : PySem.W.Hook := hookM 5 fa ex fn
def ob (s : PySem.W.SharedT) : AlM := obsM fa ex fn (frM 5 (HandSHeadRun.getT s))
theorem ob_eq (s : PySem.W.SharedT) : ob s = hk.obs s.abs := obsM_eq (HandSHeadRun.getT_eq s)
theorem run (w : World) : HandSHeadRun.RunEq RR (PySem.W.view RR.prog [62]) hk ob 6000 loose w := by
  intro os
  kernel_rfl


/-! ### numbers by powers of ten -/
theorem pow_bits {b : Int} (hb : b.natAbs < 16) (c : Nat) : (b ^ c).natAbs < 2 ^ (4 * c + 1) := by
  rw [Int.natAbs_pow]
  have h1 : b.natAbs ^ c ≤ 16 ^ c := Nat.pow_le_pow_left (by omega) c
  have h2 : (16 : Nat) ^ c = 2 ^ (4 * c) := by
    rw [Nat.pow_mul]
  have h3 : (2 : Nat) ^ (4 * c) < 2 ^ (4 * c + 1) := Nat.pow_lt_pow_right (by decide) (by omega)
  omega
theorem bits10 (n : Nat) : (10 : Int) ^ n < 2 ^ (4 * n + 1) := by
  have h := pow_bits (b := 10) (by decide) n
  have e : ((10 : Int) ^ n).natAbs = 10 ^ n := by rw [Int.natAbs_pow]; rfl
  rw [e] at h
  have h2 : ((10 ^ n : Nat) : Int) < ((2 ^ (4 * n + 1) : Nat) : Int) := Int.ofNat_lt.mpr h
  rw [Int.natCast_pow, Int.natCast_pow] at h2
  exact h2
theorem abs10 {x : Int} {n : Nat} (h : x.natAbs < 10 ^ n) : x.natAbs < 2 ^ (4 * n + 1) := by
  have h1 := pow_bits (b := 10) (by decide) n
  have e : ((10 : Int) ^ n).natAbs = 10 ^ n := by rw [Int.natAbs_pow]; rfl
  rw [e] at h1
  omega
theorem abs_mul10 {x y : Int} {a b : Nat} (h1 : x.natAbs < 10 ^ a) (h2 : y.natAbs < 10 ^ b) : (x * y).natAbs < 10 ^ (a + b) := by
  rw [Int.natAbs_mul, Nat.pow_add]
  exact Nat.mul_lt_mul'' h1 h2
theorem natAbs10 (n : Nat) : ((10 : Int) ^ n).natAbs = 10 ^ n := by rw [Int.natAbs_pow]; rfl
theorem pow10_le {a b : Nat} (h : a ≤ b) : (10 : Nat) ^ a ≤ 10 ^ b := Nat.pow_le_pow_right (by decide) h
def sp_law (K : PySem.W.Frag) : Sp := sp1 fun a H Q _ => ∃ (sl : Addr) (ns : List Int), a = .ref sl ∧ SqL K H sl (ns.map V.int) ∧ ∀ H', Q (.bl true) H'

/-! ### normal -/
/-- the normal form, one zero after another -/
def nrm (m e : Int) : Int × Int := if m = 0 then (0, 0) else if m % 10 = 0 then nrm (m / 10) (e + 1) else (m, e)
termination_by m.natAbs
decreasing_by omega
theorem nrm_zero (e : Int) : nrm 0 e = (0, 0) := by
  unfold nrm
  simp
theorem nrm_stop {m : Int} (e : Int) (h : m % 10 ≠ 0) : nrm m e = (m, e) := by
  unfold nrm
  rw [if_neg (by omega), if_neg h]
theorem nrm_step {m : Int} (e : Int) (h0 : m ≠ 0) (h : m % 10 = 0) : nrm m e = nrm (m / 10) (e + 1) := by
  rw [nrm, if_neg h0, if_pos h]
theorem nrm_mul {a : Int} (h0 : a ≠ 0) (e : Int) : ∀ k : Nat, nrm (a * 10 ^ k) e = nrm a (e + k)
  | 0 => by simp
  | k + 1 => by
    have h1 : a * 10 ^ k ≠ 0 := Int.mul_ne_zero h0 (Int.ne_of_gt (Int.pow_pos (by decide)))
    have e1 : a * 10 ^ (k + 1) = 10 * (a * 10 ^ k) := by
      rw [Int.pow_succ, ← Int.mul_assoc, Int.mul_comm]
    rw [e1, nrm_step e (by omega) (by omega), show 10 * (a * 10 ^ k) / 10 = a * 10 ^ k by omega, nrm_mul h0 (e + 1) k]
    congr 1
    omega
theorem nrm_is {m a : Int} (h : a % 10 ≠ 0) (k : Nat) (e1 : m = a * 10 ^ k) (e : Int) : nrm m e = (a, e + k) := by
  rw [e1, nrm_mul (by omega), nrm_stop _ h]
theorem nrm_spec : ∀ (n : Nat) (m e : Int), m.natAbs ≤ n → m ≠ 0 → ∃ (a : Int) (k : Nat), nrm m e = (a, e + k) ∧ a % 10 ≠ 0 ∧ m = a * 10 ^ k
  | 0, m, _, h, h0 => absurd (Int.natAbs_eq_zero.mp (by omega)) h0
  | n + 1, m, e, h, h0 => by
    by_cases c : m % 10 = 0
    · obtain ⟨a, k, h1, h2, h3⟩ := nrm_spec n (m / 10) (e + 1) (by omega) (by omega)
      refine ⟨a, k + 1, ?_, h2, ?_⟩
      · rw [nrm_step e h0 c, h1]
        congr 1
        omega
      · rw [Int.pow_succ, ← Int.mul_assoc, ← h3]
        omega
    · exact ⟨m, 0, by rw [nrm_stop e c]; simp, c, by simp⟩
theorem nrm_of {m : Int} (e : Int) (h0 : m ≠ 0) : ∃ (a : Int) (k : Nat), nrm m e = (a, e + k) ∧ a % 10 ≠ 0 ∧ m = a * 10 ^ k := nrm_spec _ m e (Nat.le_refl _) h0
theorem nrm_piece {m : Int} (e : Int) (h0 : m ≠ 0) (h : m % 10000000000000000000000000000000000000000000000000000000000000000 = 0) :
    nrm (m / 10000000000000000000000000000000000000000000000000000000000000000) (e + 64) = nrm m e := by
  have e1 : m = (m / 10000000000000000000000000000000000000000000000000000000000000000) * 10 ^ 64 := by
    have e2 : (10 : Int) ^ 64 = 10000000000000000000000000000000000000000000000000000000000000000 := by decide
    rw [e2]
    omega
  have h1 : m / 10000000000000000000000000000000000000000000000000000000000000000 ≠ 0 := by omega
  have e3 := nrm_mul h1 e 64
  rw [← e1] at e3
  exact e3.symm
def sp_normal : Sp := sp2 fun a b H Q _ => ∃ m e, a = .int m ∧ b = .int e ∧ ∀ p x y, nrm m e = (x, y) → H p = none → Q (.ref p) (upd H p (.tup [.int x, .int y]))

/-! ### power -/

def sp_power : Sp := sp2 fun a b H Q _ => ∃ (x : Int) (n : Nat), a = .int x ∧ b = .int (n : Int) ∧ x.natAbs < 16 ∧ n ≤ 100000 ∧ Q (.int (x ^ n)) H
section
variable {P : Program} {w : World} {K : PySem.W.Frag} {mg : Str → Option Value} {base : Heap} {f : Addr} {fd : FuncData}
theorem ok_power (F : FunD K "power" "power" (defArgs s_power) (defBody s_power) (defScope s_power) [] [] (glAd "power" K) fd) (m : mg "power" = some (.ref (glAd "power" K))) (nb : Nm K mg) : Cal P w K mg base 1 "power" sp_power [] := by
  refine calD F m sc_power (fun _ _ _ _ _ _ us hl => match us, hl with | [_, _], _ => rfl) len2 (fun cdv A outer s H vs Q E hr h => ⟨_, (pss_cons (ps_set (i := 2) sc_power.nd rfl (Or.inl rfl) pe_int)
    (pss_cons (ps_while PassesOwn.never (pt_cmpR op_gt (pv 1) pe_int (nomark _))
    (pss_cons (ps_if (pt_cmpR op_eq (pe_op op_mod (pv 1) pe_int) pe_int (nomark _))
    (pss_one (ps_set (i := 2) sc_power.nd rfl (Or.inl rfl) (pe_op op_mulX (pv 2) (pv 0))))
    pss_nil)
    (pss_cons (ps_set (i := 0) sc_power.nd rfl (Or.inl rfl) (pe_op op_mulX (pv 0) (pv 0)))
    (pss_one (ps_set (i := 1) sc_power.nd rfl (Or.inl rfl) (pe_op op_fdiv (pv 1) pe_int))))))
    (pss_one (ps_ret (pv 2))))), ?_⟩)
  obtain ⟨_, _, rfl, x, n, rfl, rfl, hx, hn, h⟩ := h
  walk_at "rd"
  refine r_while (fun k σ H' => H = H' ∧ ∃ c d : Nat, σ = [some (.int (x ^ c)), some (.int (k : Int)), some (.int (x ^ d))] ∧ d + c * k = n ∧ c ≤ 2 * n + 1) n ⟨rfl, 1, 0, by rw [Int.pow_one, Int.pow_zero] <;> rfl, by omega, by omega⟩ ?_
  rintro k σ _ ⟨rfl, c, d, rfl, h1, h2⟩
  walk_at "rd"
  refine r_ite (fun c2 => ?_) (fun c2 => ?_)
  · have h3 : c ≤ n := by
      have h4 : c * 1 ≤ c * k := Nat.mul_le_mul_left c (by omega)
      omega
    have hb := pow_bits hx c
    have hd := pow_bits hx d
    refine r_turn ?_
    walk_at "rd"
    refine r_ite (fun c3 => ?_) (fun c3 => ?_)
    · walk_at "rd"
      refine r_I (mulx_ok hd hb (by omega)) ?_
      walk_at "rd"
      refine r_I (mulx_ok hb hb (by omega)) ?_
      walk_at "rd"
      have e1 : k = 2 * (k / 2) + 1 := by omega
      refine ⟨k / 2, by omega, rfl, c + c, d + c, ?_, ?_, by omega⟩
      · rw [Int.pow_add, Int.pow_add]
        rfl
      · have e2 : c * k = c * (2 * (k / 2)) + c := by
          conv => lhs; rw [e1]
          rw [Nat.mul_add, Nat.mul_one]
        have e3 : (c + c) * (k / 2) = c * (2 * (k / 2)) := by
          rw [← Nat.two_mul, Nat.mul_comm 2 c, Nat.mul_assoc]
        omega
    · walk_at "rd"
      refine r_I (mulx_ok hb hb (by omega)) ?_
      walk_at "rd"
      have e1 : k = 2 * (k / 2) := by omega
      refine ⟨k / 2, by omega, rfl, c + c, d, ?_, ?_, by omega⟩
      · rw [Int.pow_add]
        rfl
      · have e2 : c * k = c * (2 * (k / 2)) := by
          conv => lhs; rw [e1]
        have e3 : (c + c) * (k / 2) = c * (2 * (k / 2)) := by
          rw [← Nat.two_mul, Nat.mul_comm 2 c, Nat.mul_assoc]
        omega
  · have e : k = 0 := by omega
    subst e
    walk_at "rd"
    have e2 : d = n := by omega
    rw [e2]
    exact h
end

/-! ### whole -/

def sp_whole : Sp := sp3 fun a b c H Q _ => ∃ m e t : Int, a = .int m ∧ b = .int e ∧ c = .int t ∧ t ≤ 1000 ∧ m.natAbs < 2 ^ 1000000 ∧ (0 ≤ e ∧ e ≤ t → Q (.int (m * 10 ^ e.toNat)) H) ∧ (¬ (0 ≤ e ∧ e ≤ t) → Q .non H)
section
variable {P : Program} {w : World} {K : PySem.W.Frag} {mg : Str → Option Value} {base : Heap} {f : Addr} {fd : FuncData}
theorem ok_whole (F : FunD K "whole" "whole" (defArgs s_whole) (defBody s_whole) (defScope s_whole) [] [] (glAd "whole" K) fd) (m : mg "whole" = some (.ref (glAd "whole" K))) (nb : Nm K mg) (c_power : Cal P w K mg base 1 "power" sp_power []) : Cal P w K mg base 2 "whole" sp_whole [] := by
  refine calD F m sc_whole (fun _ _ _ _ _ _ us hl => match us, hl with | [_, _, _], _ => rfl) len3 (fun cdv A outer s H vs Q E hr h => ⟨_, (pss_cons (ps_if (pt_chain op_le op_le pe_int (pv 1) (pv 2))
    (pss_one (ps_ret (pe_op op_mulX (pv 0) (pe_c c_power hr (by decide) rfl (pa_cons pe_int (pa_cons (pv 1) pa_nil))))))
    pss_nil)
    (pss_one (ps_ret pe_non))), ?_⟩)
  obtain ⟨_, _, _, rfl, m, e, t, rfl, rfl, rfl, ht, hm, h1, h2⟩ := h
  walk_at "rd"
  refine r_ite (fun c1 => ?_) (fun c1 => ?_)
  · walk_at "rd"
    refine r_ite (fun c2 => ?_) (fun c2 => ?_)
    · walk_at "rd"
      refine ⟨_, _, rfl, 10, e.toNat, rfl, congrArg V.int (by omega), by decide, by omega, ?_⟩
      refine r_I (mulx_ok hm (pow_bits (by decide) _) (by omega)) ?_
      exact h1 ⟨c1, c2⟩
    · walk_at "rd"
      exact h2 (by omega)
  · walk_at "rd"
    exact h2 (by omega)
end

/-! ### the law's state: a list of drawn numbers, its place, and the script; every draw is any number below its bound -/
structure SC where
  a : Addr
  nl : Addr
  sl : Addr
  nums : List Int
  ns : List Int
structure LS (K : PySem.W.Frag) (S : SC) (H : Hp) : Prop where
  st : ∃ k l f : Int, H S.a = some (.lst [.ref S.nl, .int k, .int l, .ref S.sl, .int f])
  nm : H S.nl = some (.lst (S.nums.map V.int))
  len : S.nums.length = 120
  ne : S.nl ≠ S.a
  scr : SqL K H S.sl (S.ns.map V.int)
/-- all but the state's own list stays -/
def Keep (S : SC) (H H' : Hp) : Prop := ∀ b o, b ≠ S.a → H b = some o → H' b = some o
theorem Keep.refl (S : SC) (H : Hp) : Keep S H H := fun _ _ _ h => h
theorem Keep.trans {S : SC} {H H1 H2 : Hp} (a : Keep S H H1) (b : Keep S H1 H2) : Keep S H H2 := fun c o n h => b c o n (a c o n h)
theorem Keep.of {S : SC} {H H' : Hp} (h : Same H H') : Keep S H H' := fun b o _ q => h b o q
section
variable {K : PySem.W.Frag} {S : SC} {H H' : Hp}
theorem LS.same (L : LS K S H) (h : Same H H') : LS K S H' := by
  obtain ⟨⟨k, l, f, e⟩, h2, h3, h4, h5⟩ := L
  exact ⟨⟨k, l, f, h _ _ e⟩, h _ _ h2, h3, h4, h.seq h5⟩
theorem LS.new (L : LS K S H) {p : Addr} (h : H p = none) (o : HO) : LS K S (upd H p o) := L.same (same_upd h o)
theorem LS.put (L : LS K S H) (k l f : Int) : LS K S (upd H S.a (.lst [.ref S.nl, .int k, .int l, .ref S.sl, .int f])) := by
  obtain ⟨⟨k', l', f', e⟩, h2, h3, h4, h5⟩ := L
  refine ⟨⟨k, l, f, upd_same⟩, (upd_ne h4).trans h2, h3, h4, ?_⟩
  rcases h5 with (h | ⟨o, h⟩) | h
  · refine .inl (.inl ((upd_ne fun q => ?_).trans h))
    rw [q, e] at h
    injection h with h
    injection h with h
    cases hn : S.ns with
    | nil =>
      rw [hn] at h
      cases h
    | cons x r =>
      rw [hn] at h
      cases h
  · refine .inl (.inr ⟨o, (upd_ne fun q => ?_).trans h⟩)
    rw [q, e] at h
    cases h
  · exact .inr h
theorem Keep.put (o : HO) : Keep S H (upd H S.a o) := fun b u n h => (upd_ne n).trans h
/-- an address that is free later was free before -/
theorem Keep.free (h : Keep S H H') (L : LS K S H') {p : Addr} (hp : H' p = none) : H p = none := by
  have n : p ≠ S.a := fun e => by
    obtain ⟨k, l, f, q⟩ := L.st
    rw [e, q] at hp
    cases hp
  cases e : H p with
  | none => rfl
  | some o =>
    rw [h p o n e] at hp
    cases hp
theorem LS.ne_free (L : LS K S H) {p : Addr} (hp : H p = none) : p ≠ S.a := fun e => by
  obtain ⟨k, l, f, q⟩ := L.st
  rw [e, q] at hp
  cases hp
end
/-- the state with what is left of its budget -/
structure LB (K : PySem.W.Frag) (S : SC) (l : Int) (H : Hp) : Prop where
  ls : LS K S H
  at_ : ∃ k f : Int, H S.a = some (.lst [.ref S.nl, .int k, .int l, .ref S.sl, .int f])
section
variable {K : PySem.W.Frag} {S : SC} {l : Int} {H H' : Hp}
theorem LB.same (L : LB K S l H) (h : Same H H') : LB K S l H' := by
  obtain ⟨h1, k, f, e⟩ := L
  exact ⟨h1.same h, k, f, h _ _ e⟩
theorem LB.new (L : LB K S l H) {p : Addr} (h : H p = none) (o : HO) : LB K S l (upd H p o) := L.same (same_upd h o)
theorem LB.put (L : LB K S l H) (k l' f : Int) : LB K S l' (upd H S.a (.lst [.ref S.nl, .int k, .int l', .ref S.sl, .int f])) := ⟨L.ls.put k l' f, k, f, upd_same⟩
theorem LB.ne_free (L : LB K S l H) {p : Addr} (hp : H p = none) : p ≠ S.a := L.ls.ne_free hp
theorem LB.noTup (L : LB K S l H) {a : Addr} {xs : List V} (h : H a = some (.tup xs)) : a ≠ S.a := fun e => by
  obtain ⟨_, k, f, e'⟩ := L
  rw [e, e'] at h
  cases h
end




def sp__law_cell (K : PySem.W.Frag) : Sp := sp2 fun a b H Q _ => ∃ (sl : Addr) (ns : List Int) (k : Int), a = .ref sl ∧ b = .int k ∧ SqL K H sl (ns.map V.int) ∧ 0 ≤ k ∧ ∀ z : Int, Q (.int z) H
def sp__law_numbers : Sp := sp2 fun a b H Q _ => ∃ (z : Int) (n : Nat), a = .int z ∧ b = .int (n : Int) ∧ n ≤ 1000 ∧ ∀ (p : Addr) (xs : List Int), H p = none → xs.length = n → Q (.ref p) (upd H p (.lst (xs.map V.int)))
def sp__law_state (K : PySem.W.Frag) : Sp := sp2 fun a b H Q _ => ∃ (sl : Addr) (ns : List Int) (l : Int), a = .ref sl ∧ b = .int l ∧ SqL K H sl (ns.map V.int) ∧
  ∀ (S : SC) (H' : Hp), S.sl = sl → S.ns = ns → LB K S l H' → Same H H' → H S.a = none → Q (.ref S.a) H'
def sp__law_next (K : PySem.W.Frag) : Sp := sp2 fun a b H Q _ => ∃ (S : SC) (l : Int) (m : Int), a = .ref S.a ∧ b = .int m ∧ 0 < m ∧ LB K S l H ∧ ∀ (r : Int) (H' : Hp), 0 ≤ r → r < m → LB K S l H' → Keep S H H' → Q (.int r) H'
section
variable {P : Program} {w : World} {K : PySem.W.Frag} {mg : Str → Option Value} {base : Heap} {f : Addr} {fd : FuncData}
theorem ok__law_cell (F : FunD K "_law_cell" "_law_cell" (defArgs s__law_cell) (defBody s__law_cell) (defScope s__law_cell) [] [] (glAd "_law_cell" K) fd) (m : mg "_law_cell" = some (.ref (glAd "_law_cell" K))) (nb : Nm K mg) : Cal P w K mg base 1 "_law_cell" (sp__law_cell K) [] := by
  refine calD F m sc__law_cell (fun _ _ _ _ _ _ us hl => match us, hl with | [_, _], _ => rfl) len2 (fun cdv A outer s H vs Q E hr h => ⟨_, (pss_cons (ps_if (pt_cmpR op_lt (pv 1) (pe_callB call_len_seq (by rfl) nb.len PySem.boot_len (pa_cons (pv 0) pa_nil)) (nomark _))
    (pss_one (ps_ret (pe_ix ix_list (pv 0) (pv 1) (fun _ _ => rfl))))
    pss_nil)
    (pss_one (ps_ret pe_int))), ?_⟩)
  obtain ⟨_, _, rfl, sl, ns, k, rfl, rfl, hs, h0, h⟩ := h
  walk_at "rd"
  refine ⟨_, _, rfl, .inl hs, ?_⟩
  walk_at "rd"
  refine r_ite (fun c => ?_) (fun c => ?_)
  · rw [List.length_map] at c
    obtain ⟨v, _, e⟩ := atI_ints h0 c
    walk_at "rd"
    exact r_ixL hs e (h v)
  · walk_at "rd"
    exact h 0
theorem ok__law_numbers (F : FunD K "_law_numbers" "_law_numbers" (defArgs s__law_numbers) (defBody s__law_numbers) (defScope s__law_numbers) [] [] (glAd "_law_numbers" K) fd) (m : mg "_law_numbers" = some (.ref (glAd "_law_numbers" K))) (nb : Nm K mg) : Cal P w K mg base 1 "_law_numbers" sp__law_numbers [] := by
  refine calD F m sc__law_numbers (fun _ _ _ _ _ _ us hl => match us, hl with | [_, _], _ => rfl) len2 (fun cdv A outer s H vs Q E hr h => ⟨_, (pss_cons (ps_set (i := 2) sc__law_numbers.nd rfl (Or.inl rfl) (pe_callB call_abs (by rfl) nb.abs (by decide +kernel) (pa_cons (pv 0) pa_nil)))
    (pss_cons (ps_set (i := 3) sc__law_numbers.nd rfl (Or.inl rfl) (pv 2))
    (pss_cons (ps_set (i := 4) sc__law_numbers.nd rfl (Or.inl rfl) (pe_lst pa_nil))
    (pss_cons (ps_for PassesOwn.never rfl (pi_range1 rfl nb.range (pa_cons (pv 1) pa_nil)) (pg_name (i := 5) sc__law_numbers.nd rfl (Or.inl rfl))
    (pss_one (ps_if (PW.pt (pw_and (pt_cmpR op_ge (pv 3) (pe_op op_pow pe_int pe_int) (nomark _)) (pw_and1 (pt_cmpR op_gt (pv 2) pe_int (nomark _)))))
    (pss_cons (ps_expr (pe_bm PySem.F.plainAttrs_list PySem.F.slot_list_append PySem.F.type_list_append mt_append (pv 4) (pa_cons (pe_op op_mod (pe_callTy call_int1 (by rfl) nb.int (by decide +kernel) (pa_cons (pv 2) pa_nil)) pe_int) pa_nil)))
    (pss_one (ps_set (i := 2) sc__law_numbers.nd rfl (Or.inl rfl) (pe_op op_fdiv (pv 2) pe_int))))
    (pss_cons (ps_set (i := 6) sc__law_numbers.nd rfl (Or.inl rfl) (pe_op op_mod (pe_callTy call_int1 (by rfl) nb.int (by decide +kernel) (pa_cons (pe_op op_add (pe_op op_add (pe_op op_mul (pv 3) pe_int) (pe_op op_mul (pv 5) pe_int)) pe_int) pa_nil)) pe_int))
    (pss_cons (ps_set (i := 6) sc__law_numbers.nd rfl (Or.inl rfl) (pe_op op_mod (pe_callTy call_int1 (by rfl) nb.int (by decide +kernel) (pa_cons (pe_op op_add (pe_op op_add (pe_op op_mul (pv 6) (pv 6)) (pe_op op_mul pe_int (pv 5))) pe_int) pa_nil)) pe_int))
    (pss_one (ps_expr (pe_bm PySem.F.plainAttrs_list PySem.F.slot_list_append PySem.F.type_list_append mt_append (pv 4) (pa_cons (pe_op op_mod (pe_callTy call_int1 (by rfl) nb.int (by decide +kernel) (pa_cons (pe_op op_fdiv (pv 6) pe_int) pa_nil)) pe_int) pa_nil)))))))))
    (pss_one (ps_ret (pv 4))))))), ?_⟩)
  obtain ⟨_, _, rfl, z, n, rfl, rfl, hn, h⟩ := h
  walk_at "rd"
  refine ⟨Nat.zero_le _, fun p hp => ?_⟩
  walk_at "rd"
  refine r_turns (by omega) (by omega) (fun i σ H' => ∃ (rest size : Int) (xs : List Int) (k mx : Option V), σ = [some (.int z), some (.int (n : Int)), some (.int rest), some (.int size), some (.ref p), k, mx] ∧ xs.length = i ∧ H' = upd H p (.lst (xs.map V.int))) ⟨_, _, [], none, none, rfl, rfl, rfl⟩ ?_ ?_
  · rintro i σ _ hi ⟨rest, size, xs, k, mx, rfl, hl, rfl⟩
    have hsz : (xs.map V.int).length < sizeLine := small1000 (by rw [List.length_map]; omega)
    have app : ∀ y : Int, upd (upd H p (.lst (xs.map V.int))) p (.lst (xs.map V.int ++ [.int y])) = upd H p (.lst ((xs ++ [y]).map V.int)) := fun y => by
      rw [upd_upd, List.map_append]
      rfl
    have two : ∀ r : Int, ∀ (σ' : St) (k mx : Option V) (rest size : Int), σ' = [some (.int z), some (.int (n : Int)), some (.int rest), some (.int size), some (.ref p), k, mx] → ∃ (rest size : Int) (xs' : List Int) (k mx : Option V), σ' = [some (.int z), some (.int (n : Int)), some (.int rest), some (.int size), some (.ref p), k, mx] ∧ xs'.length = i + 1 ∧ upd (upd H p (.lst (xs.map V.int))) p (.lst (xs.map V.int ++ [.int r])) = upd H p (.lst (xs'.map V.int)) := fun r σ' k mx rest size e =>
      ⟨rest, size, xs ++ [r], k, mx, e, by rw [List.length_append, hl]; rfl, app r⟩
    walk_at "rd"
    refine r_ite (fun c1 => ?_) (fun c1 => ?_)
    · walk_at "rd"
      refine r_ite (fun c2 => ?_) (fun c2 => ?_)
      · walk_at "rd"
        refine ⟨tyL upd_same, ?_⟩
        walk_at "rd"
        refine r_app upd_same hsz ?_
        walk_at "rd"
        exact two _ _ _ _ _ _ rfl
      · walk_at "rd"
        refine r_I (.inl ⟨by omega, by omega⟩) ?_
        walk_at "rd"
        refine ⟨tyL upd_same, ?_⟩
        walk_at "rd"
        refine r_app upd_same hsz ?_
        walk_at "rd"
        exact two _ _ _ _ _ _ rfl
    · walk_at "rd"
      refine r_I (.inl ⟨by omega, by omega⟩) ?_
      walk_at "rd"
      refine ⟨tyL upd_same, ?_⟩
      walk_at "rd"
      refine r_app upd_same hsz ?_
      walk_at "rd"
      exact two _ _ _ _ _ _ rfl
  · rintro σ _ ⟨rest, size, xs, k, mx, rfl, hl, rfl⟩
    walk_at "rd"
    exact h p xs hp (by omega)
theorem ok__law_next (F : FunD K "_law_next" "_law_next" (defArgs s__law_next) (defBody s__law_next) (defScope s__law_next) [] [] (glAd "_law_next" K) fd) (m : mg "_law_next" = some (.ref (glAd "_law_next" K))) (nb : Nm K mg) : Cal P w K mg base 1 "_law_next" (sp__law_next K) [] := by
  refine calD F m sc__law_next (fun _ _ _ _ _ _ us hl => match us, hl with | [_, _], _ => rfl) len2 (fun cdv A outer s H vs Q E hr h => ⟨_, (pss_cons (ps_set (i := 2) sc__law_next.nd rfl (Or.inl rfl) (pe_ix ix_list (pv 0) pe_int (fun _ _ => rfl)))
    (pss_cons (ps_asg (pe_op op_add (pv 2) pe_int) (pg_sub (pv 0) pe_int set_list))
    (pss_one (ps_ret (pe_op op_mod (pe_callTy call_int1 (by rfl) nb.int (by decide +kernel) (pa_cons (pe_op op_add (pe_ix ix_list (pe_ix ix_list (pv 0) pe_int (fun _ _ => rfl)) (pe_op op_mod (pe_callTy call_int1 (by rfl) nb.int (by decide +kernel) (pa_cons (pv 2) pa_nil)) pe_int) (fun _ _ => rfl)) (pe_op op_mul pe_int (pe_op op_fdiv (pv 2) pe_int))) pa_nil)) (pv 1)))))), ?_⟩)
  obtain ⟨_, _, rfl, S, l, mm, rfl, rfl, h0, L, h⟩ := h
  obtain ⟨L0, k, f5, e⟩ := L
  have L : LB K S l H := ⟨L0, k, f5, e⟩
  walk_at "rd"
  refine r_ixL (SqL.of e) rfl ?_
  walk_at "rd"
  refine r_setL e rfl ?_
  walk_at "rd"
  have L2 := L.put (k + 1) l f5
  obtain ⟨v, _, ev⟩ := atI_ints (ns := S.nums) (k := k % 120) (by omega) (by rw [L0.len]; omega)
  refine r_ixL (SqL.of upd_same) rfl ?_
  walk_at "rd"
  refine r_ixL (SqL.of L2.ls.nm) ev ?_
  walk_at "rd"
  refine r_I h0 ?_
  exact h _ _ (Int.emod_nonneg _ (by omega)) (Int.emod_lt_of_pos _ h0) L2 (Keep.put _)
theorem ok__law_state (F : FunD K "_law_state" "_law_state" (defArgs s__law_state) (defBody s__law_state) (defScope s__law_state) [] [] (glAd "_law_state" K) fd) (m : mg "_law_state" = some (.ref (glAd "_law_state" K))) (nb : Nm K mg) (c__law_cell : Cal P w K mg base 1 "_law_cell" (sp__law_cell K) []) (c__law_numbers : Cal P w K mg base 1 "_law_numbers" sp__law_numbers []) : Cal P w K mg base 2 "_law_state" (sp__law_state K) [] := by
  refine calD F m sc__law_state (fun _ _ _ _ _ _ us hl => match us, hl with | [_, _], _ => rfl) len2 (fun cdv A outer s H vs Q E hr h => ⟨_, (pss_cons (ps_set (i := 2) sc__law_state.nd rfl (Or.inl rfl) (pe_lst pa_nil))
    (pss_cons (ps_setLc (i := 4) (own := [("k", 3)]) (g := gName 3) (tt := tYes) rfl sc__law_state.nd rfl rfl (sw_true rfl rfl rfl (by decide +kernel)) (pi_range1 rfl nb.range (pa_cons pe_int pa_nil)) (blkOk_by (N := ["script", "left", "numbers", "k", "parted"]) (sc := defScope s__law_state) (by decide +kernel)) (fun _ _ _ _ _ => pg_name (i := 3) sc__law_state.nd rfl (Or.inl rfl)) (fun _ _ _ _ _ => pts_nil) (fun _ _ _ _ _ => (pe_c c__law_numbers hr (by decide) rfl (pa_cons (pe_c c__law_cell hr (by decide) rfl (pa_cons (pv 0) (pa_cons (pv 3) pa_nil))) (pa_cons pe_int pa_nil)))))
    (pss_cons (ps_for PassesOwn.never rfl (pi_range1 rfl nb.range (pa_cons pe_int pa_nil)) (pg_name (i := 3) sc__law_state.nd rfl (Or.inl rfl))
    (pss_cons (ps_expr (pe_bm PySem.F.plainAttrs_list PySem.F.slot_list_append PySem.F.type_list_append mt_append (pv 2) (pa_cons (pe_ix ix_list (pe_ix ix_list (pv 4) pe_int (fun _ _ => rfl)) (pv 3) (fun _ _ => rfl)) pa_nil)))
    (pss_cons (ps_expr (pe_bm PySem.F.plainAttrs_list PySem.F.slot_list_append PySem.F.type_list_append mt_append (pv 2) (pa_cons (pe_ix ix_list (pe_ix ix_list (pv 4) pe_int (fun _ _ => rfl)) (pv 3) (fun _ _ => rfl)) pa_nil)))
    (pss_one (ps_expr (pe_bm PySem.F.plainAttrs_list PySem.F.slot_list_append PySem.F.type_list_append mt_append (pv 2) (pa_cons (pe_ix ix_list (pe_ix ix_list (pv 4) pe_int (fun _ _ => rfl)) (pv 3) (fun _ _ => rfl)) pa_nil)))))))
    (pss_one (ps_ret (pe_lst (pa_cons (pv 2) (pa_cons pe_int (pa_cons (pv 1) (pa_cons (pv 0) (pa_cons pe_int pa_nil))))))))))), ?_⟩)
  obtain ⟨_, _, rfl, sl, ns, l, rfl, rfl, hs, h⟩ := h
  walk_at "rd"
  refine ⟨Nat.zero_le _, fun p hp => ?_⟩
  walk_at "rd"
  refine r_lcR 3 (by decide) (fun D hD => ?_) (fun R hR => hR)
  have sp0 := same_upd hp (.lst [])
  have pD : p ≠ D := fun e => by
    rw [← e, upd_same] at hD
    cases hD
  refine lc_range (fun i H' => ∃ ps : List Addr, H' D = some (.lst (ps.map V.ref)) ∧ ps.length = i ∧ (∀ q ∈ ps, q ≠ D ∧ ∃ xs : List Int, H' q = some (.lst (xs.map V.int)) ∧ xs.length = 40) ∧ Same (upd H p (.lst [])) H') ⟨[], upd_same, rfl, fun q hq => (by cases hq), same_upd hD _⟩ ?_ ?_
  · rintro i H' hi ⟨ps, e1, e2, e3, e4⟩
    walk_at "rd"
    refine ⟨rfl, ?_⟩
    walk_at "rd"
    have hs' : SqL K H' sl (ns.map V.int) := e4.seq (sp0.seq hs)
    refine ⟨_, _, rfl, sl, ns, _, rfl, rfl, hs', by omega, fun z => ?_⟩
    walk_at "rd"
    refine ⟨_, _, rfl, z, 40, rfl, rfl, by decide, fun q xs hq hx => ?_⟩
    have Dq : D ≠ q := ne_of_none e1 hq
    refine ⟨_, (upd_ne Dq).trans e1, small1000 (by rw [List.length_map]; omega), ps ++ [q], ?_, by rw [List.length_append, e2]; rfl, ?_, ?_⟩
    · rw [upd_same, List.map_append]
      rfl
    · intro q' hq'
      rcases List.mem_append.mp hq' with h1 | h1
      · obtain ⟨n1, xs', x1, x2⟩ := e3 q' h1
        exact ⟨n1, xs', by rw [upd_ne n1, upd_ne (ne_of_none x1 hq)]; exact x1, x2⟩
      · have e5 : q' = q := by simpa using h1
        subst e5
        exact ⟨Ne.symm Dq, xs, by rw [upd_ne (Ne.symm Dq), upd_same], hx⟩
    · intro b o hb
      have hb2 := e4 b o hb
      rw [upd_ne (ne_of_none hb hD), upd_ne (ne_of_none hb2 hq)]
      exact hb2
  · rintro H' ⟨ps, e1, e2, e3, e4⟩
    walk_at "rd"
    obtain ⟨p0, p1, p2, rfl⟩ : ∃ p0 p1 p2, ps = [p0, p1, p2] := match ps, e2 with | [a, b, c], _ => ⟨a, b, c, rfl⟩
    obtain ⟨_, x0, y0, z0⟩ := e3 p0 (by simp)
    obtain ⟨_, x1, y1, z1⟩ := e3 p1 (by simp)
    obtain ⟨_, x2, y2, z2⟩ := e3 p2 (by simp)
    have hp' : H' p = some (.lst []) := e4 _ _ upd_same
    have ne0 : ∀ {q : Addr} {xs : List Int}, H' q = some (.lst (xs.map V.int)) → xs.length = 40 → q ≠ p := fun {q xs} h1 h2 h3 => by
      rw [h3, hp'] at h1
      injection h1 with h1
      injection h1 with h1
      have h4 := congrArg List.length h1
      rw [List.length_map, h2] at h4
      cases h4
    have n0 := ne0 y0 z0
    have n1 := ne0 y1 z1
    have n2 := ne0 y2 z2
    have nD : D ≠ p := Ne.symm pD
    have fit : ∀ (xs : List Int) (i : Nat), xs.length = 40 → (i : Int) < 40 → ∃ v, atI (xs.map V.int) (i : Int) = some (.int v) := fun xs i h1 h2 => by
      obtain ⟨v, _, e⟩ := atI_ints (ns := xs) (k := (i : Int)) (by omega) (by omega)
      exact ⟨v, e⟩
    refine r_turns (by decide) (by decide) (fun i σ H2 => ∃ (zs : List Int) (kk : Option V), σ = [some (.ref sl), some (.int l), some (.ref p), kk, some (.ref D)] ∧ zs.length = 3 * i ∧ H2 = upd H' p (.lst (zs.map V.int))) ⟨[], none, rfl, rfl, ?_⟩ ?_ ?_
    · funext b
      by_cases c : b = p
      · subst c
        rw [upd_same, hp']
        rfl
      · rw [upd_ne c]
    · rintro i σ _ hi ⟨zs, kk, rfl, hz, rfl⟩
      obtain ⟨v0, a0⟩ := fit x0 i z0 hi
      obtain ⟨v1, a1⟩ := fit x1 i z1 hi
      obtain ⟨v2, a2⟩ := fit x2 i z2 hi
      walk_at "rd"
      refine ⟨tyL upd_same, ?_⟩
      walk_at "rd"
      refine r_ixL (SqL.of ((upd_ne nD).trans e1)) rfl ?_
      walk_at "rd"
      refine r_ixL (SqL.of ((upd_ne n0).trans y0)) a0 ?_
      walk_at "rd"
      refine r_app upd_same (small1000 (by rw [List.length_map]; omega)) ?_
      rw [upd_upd]
      walk_at "rd"
      refine ⟨tyL upd_same, ?_⟩
      walk_at "rd"
      refine r_ixL (SqL.of ((upd_ne nD).trans e1)) rfl ?_
      walk_at "rd"
      refine r_ixL (SqL.of ((upd_ne n1).trans y1)) a1 ?_
      walk_at "rd"
      refine r_app upd_same (small1000 (by rw [List.length_append, List.length_map]; show zs.length + 1 ≤ 1000; omega)) ?_
      rw [upd_upd]
      walk_at "rd"
      refine ⟨tyL upd_same, ?_⟩
      walk_at "rd"
      refine r_ixL (SqL.of ((upd_ne nD).trans e1)) rfl ?_
      walk_at "rd"
      refine r_ixL (SqL.of ((upd_ne n2).trans y2)) a2 ?_
      walk_at "rd"
      refine r_app upd_same (small1000 (by rw [List.length_append, List.length_append, List.length_map]; show zs.length + 1 + 1 ≤ 1000; omega)) ?_
      rw [upd_upd]
      exact ⟨zs ++ [v0] ++ [v1] ++ [v2], _, rfl, by simp [hz]; omega, by simp⟩
    · rintro σ _ ⟨zs, kk, rfl, hz, rfl⟩
      walk_at "rd"
      refine ⟨(by show 5 ≤ sizeLine; decide), fun a ha => ?_⟩
      have sa := same_upd ha (.lst [.ref p, .int 0, .int l, .ref sl, .int 3])
      have pa : p ≠ a := ne_of_none upd_same ha
      have all : Same H (upd H' p (.lst (zs.map V.int))) := fun b o hb => by
        rw [upd_ne (ne_of_none hb hp)]
        exact e4 _ _ (sp0 _ _ hb)
      have hsl : SqL K H sl (ns.map V.int) := hs
      refine h ⟨a, p, sl, zs, ns⟩ _ rfl rfl ⟨⟨⟨0, l, 3, upd_same⟩, (upd_ne pa).trans upd_same, by rw [hz]; rfl, pa, sa.seq (all.seq hs)⟩, 0, 3, upd_same⟩ (all.trans sa) (all.free ha)
end

/-! ### draws that keep the budget -/
section
variable {K : PySem.W.Frag} {S : SC} {l : Int} {σ : St} {H : Hp} {Q : VK} {E : XK}
theorem b_next {m : Int} (L : LB K S l H) (hm : 0 < m) (h : ∀ (r : Int) (H' : Hp), 0 ≤ r → r < m → LB K S l H' → Keep S H H' → Q (.int r) H') : sp__law_next K ([.ref S.a, .int m] ++ []) H Q E := ⟨_, _, rfl, S, l, m, rfl, rfl, hm, L, h⟩
/-- [x, y, ..][_law_next(state, n)] -/
theorem b_pick {xs : List V} {n : Int} {i : Nat} (L : LB K S l H) (e : σ[i]? = some (some (.ref S.a))) (hl : xs.length ≤ sizeLine) (hn : 0 < n) (hx : (xs.length : Int) = n)
    (h : ∀ (v : V) (H' : Hp), v ∈ xs → LB K S l H' → Keep S H H' → Q v H') :
    xs.length ≤ sizeLine ∧ ∀ p, H p = none → tCall (sp__law_next K) [] E (tCons (tVar i) (tCons (tC (.int n)) tNil)) σ (upd H p (.lst xs)) fun y H2 => rIxL K (.ref p) y H2 Q := by
  refine ⟨hl, fun p hp => ⟨_, e, ?_⟩⟩
  show sp__law_next K ([.ref S.a, .int n] ++ []) (upd H p (.lst xs)) (fun y H2 => rIxL K (.ref p) y H2 Q) E
  refine b_next (L.new hp _) hn fun r H' h0 h1 L' k => ?_
  have hr : r.toNat < xs.length := by omega
  have er : r = ((r.toNat : Nat) : Int) := by omega
  refine ⟨p, xs, r, xs[r.toNat], rfl, rfl, SqL.of (k _ _ (L.ne_free hp) upd_same), ?_, ?_⟩
  · have q := atI_nat (xs := xs) (j := r.toNat) (v := xs[r.toNat]) (List.getElem?_eq_getElem hr)
    rw [← er] at q
    exact q
  · exact h _ _ (List.getElem_mem hr) L' ((Keep.of (same_upd hp _)).trans k)
/-- the same, all of them numbers from lo to hi -/
theorem b_pickI {xs : List V} {n : Int} {i : Nat} (lo hi : Int) (L : LB K S l H) (e : σ[i]? = some (some (.ref S.a))) (hl : xs.length ≤ sizeLine) (hn : 0 < n) (hx : (xs.length : Int) = n) (hz : ∀ v ∈ xs, ∃ z, v = V.int z ∧ lo ≤ z ∧ z ≤ hi)
    (h : ∀ (z : Int) (H' : Hp), lo ≤ z → z ≤ hi → V.int z ∈ xs → LB K S l H' → Keep S H H' → Q (.int z) H') :
    xs.length ≤ sizeLine ∧ ∀ p, H p = none → tCall (sp__law_next K) [] E (tCons (tVar i) (tCons (tC (.int n)) tNil)) σ (upd H p (.lst xs)) fun y H2 => rIxL K (.ref p) y H2 Q :=
  b_pick L e hl hn hx fun v H' hv L' k => by
    obtain ⟨z, rfl, h1, h2⟩ := hz v hv
    exact h z H' h1 h2 hv L' k
theorem bl_nil {p : V → Prop} : ∀ v ∈ ([] : List V), p v := fun v hv => by cases hv
theorem bl_cons {p : V → Prop} {x : V} {xs : List V} (h : p x) (t : ∀ v ∈ xs, p v) : ∀ v ∈ x :: xs, p v := fun v hv => by
  rcases List.mem_cons.mp hv with e | e
  · rw [e]
    exact h
  · exact t v e
theorem b_new {o : HO} {p : Addr} (L : LB K S l H) (hp : H p = none) : ∃ H', upd H p o = H' ∧ LB K S l H' ∧ Same H H' ∧ H' p = some o ∧ p ≠ S.a := ⟨_, rfl, L.new hp o, same_upd hp o, upd_same, L.ne_free hp⟩
end

/-! ### slices, comprehensions, objects: rules of general use -/
section
variable {σ : St} {H : Hp} {n b c : St → Hp → Prop} {r : VK} {Q : VK} {K : Frg} {a C dx : Addr} {fs : List (Str × V)} {f : Str} {v : V}
theorem r_fsetK {R : Hp → Prop} {fs' : List (Str × V)} (h : H a = some (.ins C dx fs)) (cl : Cls K C) (na : NoAttr K C f) (hl : fs.length < 1000) (e : putF f v fs = fs') (q : ∀ H', H' a = some (.ins C dx fs') → (∀ b, b ≠ a → H' b = H b) → R H') :
    ∃ a' C dx fs, V.ref a = .ref a' ∧ H a' = some (.ins C dx fs) ∧ Cls K C ∧ NoAttr K C f ∧ fs.length < 1000 ∧ R (upd H a' (.ins C dx (putF f v fs))) := r_fset h cl na hl e (q _ upd_same fun _ hb => upd_ne hb)
theorem r_appK {p : Addr} {xs : List V} {y : V} (h : H p = some (.lst xs)) (hl : xs.length < sizeLine) (q : ∀ H', H' p = some (.lst (xs ++ [y])) → (∀ b, b ≠ p → H' b = H b) → Q .non H') : rAppend (.ref p) [y] H Q := r_app h hl (q _ upd_same fun _ hb => upd_ne hb)
theorem r_gfldV {R : St → Hp → Prop} {fs' : List (Str × V)} {k : Nat} (ek : σ[k]? = some (some (.ref a))) (h : H a = some (.ins C dx fs)) (cl : Cls K C) (na : NoAttr K C f) (hl : fs.length < 1000) (e : putF f v fs = fs') (q : ∀ H', H' a = some (.ins C dx fs') → (∀ b, b ≠ a → H' b = H b) → R σ H') : gFld K (tVar k) f v σ H R :=
  ⟨_, ek, a, C, dx, fs, rfl, h, cl, na, hl, by rw [e]; exact q _ upd_same fun _ hb => upd_ne hb⟩
end
def But (a l : Addr) (H H' : Hp) : Prop := ∀ b u, b ≠ a → b ≠ l → H b = some u → H' b = some u
theorem map_snoc (ps : List Int) (x : Int) : ps.map V.int ++ [V.int x] = (ps ++ [x]).map V.int := by simp
theorem dp_tup {K : Frg} {H : Hp} {v : V} {ds : List PyData} (h : Dp K H v (.tuple ds)) : ∃ a xs, v = .ref a ∧ SqT K H a xs ∧ DpAll K H xs ds := by
  cases h
  exact ⟨_, _, rfl, by assumption, by assumption⟩
theorem dp_get {K : Frg} {H : Hp} : ∀ {xs : List V} {ds : List PyData} {i : Nat} {x : V}, DpAll K H xs ds → xs[i]? = some x → ∃ d, ds[i]? = some d ∧ Dp K H x d
  | [], _, _, _, _, e => by cases e
  | x :: xs, _, 0, _, .cons h t, e => by
    cases e
    exact ⟨_, rfl, h⟩
  | x :: xs, _, i + 1, _, .cons h t, e => by
    obtain ⟨d, e1, h1⟩ := dp_get (i := i) t e
    exact ⟨d, e1, h1⟩
theorem dp_len {K : Frg} {H : Hp} : ∀ {xs : List V} {ds : List PyData}, DpAll K H xs ds → xs.length = ds.length
  | [], _, .nil => rfl
  | _ :: _, _, .cons _ t => congrArg (· + 1) (dp_len t)
theorem dp_ints {K : Frg} {H : Hp} : ∀ {xs : List V} (ns : List Int), DpAll K H xs (ns.map PyData.int) → xs = ns.map V.int
  | _, [], h => by
    cases h
    rfl
  | _, n :: ns, h => by
    cases h with
    | cons h t =>
      cases h
      rw [dp_ints ns t]
      rfl
theorem dpa_ints {K : Frg} {H : Hp} : ∀ (ns : List Int), DpAll K H (ns.map V.int) (ns.map PyData.int)
  | [] => .nil
  | n :: ns => .cons (.int n) (dpa_ints ns)
theorem shaped_ints (ns : List Int) : SeqAt.shaped (.list (ns.map PyData.int)) = true := PySem.W.ke_shaped_ints ns
theorem ints_get {cs : List Int} {i : Nat} {x : V} (e : (cs.map V.int)[i]? = some x) : ∃ c, cs[i]? = some c ∧ x = .int c ∧ cs.take (i + 1) = cs.take i ++ [c] := by
  rw [List.getElem?_map] at e
  obtain ⟨c, h, rfl⟩ := Option.map_eq_some_iff.mp e
  refine ⟨c, h, rfl, ?_⟩
  rw [List.take_succ, h]
  rfl
theorem ints_step {cs : List Int} {i : Nat} {c : Int} (h : cs[i]? = some c) : cs.take (i + 1) = cs.take i ++ [c] := by
  rw [List.take_succ, h]
  rfl
/-- the state stays when a place changes that was free at an earlier heap -/
theorem LS.away {K : PySem.W.Frag} {S : SC} {H1 H' : Hp} (L1 : LS K S H1) {D : Addr} (hD : H1 D = none) (L : LS K S H') (o : HO) : LS K S (upd H' D o) := by
  obtain ⟨⟨k, l, f, e⟩, h2, h3, h4, h5⟩ := L1
  obtain ⟨⟨k', l', f', e'⟩, h2', _, _, h5'⟩ := L
  have n : ∀ {b : Addr} {u : HO}, H1 b = some u → b ≠ D := fun h z => by
    rw [z, hD] at h
    cases h
  refine ⟨⟨k', l', f', (upd_ne (n e)).trans e'⟩, (upd_ne (n h2)).trans h2', h3, h4, ?_⟩
  rcases h5 with (h | ⟨u, h⟩) | h
  · exact seq_upd h5' (n h)
  · exact seq_upd h5' (n h)
  · exact .inr h
theorem r_sl {σ : St} {H : Hp} {Q : VK} {r : V → Option Int → Option Int → Hp → VK → Prop} {te : TE} {tl th : TO} (h : te σ H fun x H1 => tl σ H1 fun l H2 => th σ H2 fun u H3 => r x l u H3 Q) : tSl r te tl th σ H Q := h
theorem r_part {σ : St} {H : Hp} {t : TE} {Q : Option Int → Hp → Prop} (h : t σ H fun x H1 => ∃ i, x = .int i ∧ Q (some i) H1) : tPart t σ H Q := h
theorem r_some {i : Int} {Q : Option Int → Prop} (h : Q (some i)) : ∃ j, V.int i = .int j ∧ Q (some j) := ⟨i, rfl, h⟩
theorem r_nopart {σ : St} {H : Hp} {Q : Option Int → Hp → Prop} (h : Q none H) : tNoPart σ H Q := h
theorem r_slL {K : PySem.W.Frag} {p : Addr} {xs : List V} {lo hi : Option Int} {H : Hp} {Q : VK} (hs : SqL K H p xs) (h : ∀ q, H q = none → Q (.ref q) (upd H q (.lst (cutV xs lo hi)))) : rSlL K (.ref p) lo hi H Q := ⟨p, xs, rfl, hs, h⟩
theorem cut_tl {v : V} {xs : List V} : cutV (v :: xs) (some 1) none = xs := by
  have e : HT.sIx (v :: xs).length 0 (some 1) = 1 := (HT.sIx_nat (v :: xs).length 0 1).trans (by show min 1 (xs.length + 1) = 1; omega)
  unfold cutV
  rw [e, HT.sIx_none]
  show xs.take (xs.length + 1 - 1) = xs
  simp
theorem r_min2 {σ : St} {H : Hp} {Q : VK} {K : PySem.W.Frag} {p : Addr} {x y : Int} (hs : H p = some (.lst [.int x, .int y])) (h : Q (.int (min x y)) H) : rMin K [.ref p] H Q := by
  refine ⟨p, [x, y], rfl, SqL.of hs, by show 0 < 2; decide, fun m hm hle => ?_⟩
  have h1 := hle x (by simp)
  have h2 := hle y (by simp)
  have e : m = min x y := by
    rcases List.mem_cons.mp hm with e | e
    · omega
    · rcases List.mem_cons.mp e with e | e
      · omega
      · cases e
  rw [e]
  exact h
theorem at0 {v : V} {xs : List V} : atI (v :: xs) 0 = some v := atI_nat (xs := v :: xs) (j := 0) rfl
theorem cut_ints (zs : List Int) (lo hi : Option Int) : ∃ ws : List Int, cutV (zs.map V.int) lo hi = ws.map V.int ∧ (∀ x ∈ ws, x ∈ zs) ∧ ws.length ≤ zs.length := by
  refine ⟨(zs.drop (HT.sIx (zs.map V.int).length 0 lo)).take (HT.sIx (zs.map V.int).length (zs.map V.int).length hi - HT.sIx (zs.map V.int).length 0 lo), ?_, ?_, ?_⟩
  · unfold cutV
    rw [List.map_take, List.map_drop]
  · intro x hx
    exact List.mem_of_mem_drop (List.mem_of_mem_take hx)
  · rw [List.length_take, List.length_drop]
    omega
/-- a slice of a row of numbers in a slot -/
theorem d_cut {σ : St} {H : Hp} {Q : VK} {K : PySem.W.Frag} {k : Nat} {o : Addr} {zs : List Int} {tl th : TO} (lo hi : Option Int) (e : σ[k]? = some (some (.ref o))) (g : H o = some (.lst (zs.map V.int))) (hl : ∀ R : Option Int → Hp → Prop, R lo H → tl σ H R) (hh : ∀ R : Option Int → Hp → Prop, R hi H → th σ H R)
    (h : ∀ (q : Addr) (ws : List Int), H q = none → (∀ x ∈ ws, x ∈ zs) → ws.length ≤ zs.length → Q (.ref q) (upd H q (.lst (ws.map V.int)))) : tSl (rSlL K) (tVar k) tl th σ H Q := by
  refine r_sl ⟨_, e, hl _ (hh _ ?_)⟩
  obtain ⟨ws, e1, e2, e3⟩ := cut_ints zs lo hi
  refine r_slL (SqL.of g) fun q nq => ?_
  rw [e1]
  exact h q ws nq e2 e3
theorem cat_ints (a b : List Int) : a.map V.int ++ b.map V.int = (a ++ b).map V.int := by simp
theorem LS.but {K : PySem.W.Frag} {S : SC} {H1 H H' : Hp} (L1 : LS K S H1) {m l : Addr} (hm : H1 m = none) (hl : H1 l = none) (L : LS K S H) (b : But m l H H') : LS K S H' := by
  obtain ⟨⟨k, l', f, e⟩, h2, h3, h4, h5⟩ := L1
  obtain ⟨⟨k', l'', f', e'⟩, h2', _, _, h5'⟩ := L
  have n1 : ∀ {b : Addr} {u : HO}, H1 b = some u → b ≠ m := fun h z => by
    rw [z, hm] at h
    cases h
  have n2 : ∀ {b : Addr} {u : HO}, H1 b = some u → b ≠ l := fun h z => by
    rw [z, hl] at h
    cases h
  refine ⟨⟨k', l'', f', b _ _ (n1 e) (n2 e) e'⟩, b _ _ (n1 h2) (n2 h2) h2', h3, h4, ?_⟩
  have go : S.sl ≠ m → S.sl ≠ l → SqL K H' S.sl (S.ns.map V.int) := fun q1 q2 => by
    rcases h5' with (h | ⟨u, h⟩) | h
    · exact .inl (.inl (b _ _ q1 q2 h))
    · exact .inl (.inr ⟨u, b _ _ q1 q2 h⟩)
    · exact .inr h
  rcases h5 with (h | ⟨u, h⟩) | h
  · exact go (n1 h) (n2 h)
  · exact go (n1 h) (n2 h)
  · exact .inr h
theorem But.refl (a l : Addr) (H : Hp) : But a l H H := fun _ _ _ _ z => z
theorem But.trans {a l : Addr} {H H1 H2 : Hp} (x : But a l H H1) (y : But a l H1 H2) : But a l H H2 := fun b u p q z => y b u p q (x b u p q z)
theorem But.same {a l : Addr} {H H1 : Hp} (x : Same H H1) : But a l H H1 := fun b u _ _ z => x b u z
theorem cut_to {zs : List Int} {d : Nat} (h : d ≤ zs.length) : cutV (zs.map V.int) none (some (d : Nat)) = (zs.take d).map V.int := by
  unfold cutV
  rw [HT.sIx_nat, HT.sIx_none, List.length_map, Nat.min_eq_left h, List.drop_zero, Nat.sub_zero, List.map_take]
theorem r_lcL {σ : St} {H : Hp} {Q : VK} {K : PySem.W.Frag} {tl : TE} {g : TG} {tt : TT} {te : TE} {vs : List Nat} (h : tl σ H fun x H1 => ∃ a, x = .ref a ∧ (∃ xs, SqL K H1 a xs) ∧ ∀ D, H1 D = none → ∃ W : Nat → Nat → Hp → Prop, (∃ m, W 0 m (upd H1 D (.lst []))) ∧ ∀ i m H, W i m H →
  ((Itl K a).stop i H ∧ Q (.ref D) H) ∨ ((Itl K a).go i H ∧ ∃ Nx : Hp → Prop, (∀ H', Nx H' → ∃ m', m' < m ∧ W (i + 1) m' H') ∧ ∀ x H', (Itl K a).yld i H x H' → g x (wipe σ vs) H' fun σ2 H2 => wipe σ2 vs = wipe σ vs ∧ tt σ2 H2 fun b H3 =>
    if b = true then te σ2 H3 fun y H4 => ∃ acc, H4 D = some (.lst acc) ∧ acc.length < sizeLine ∧ Nx (upd H4 D (.lst (acc ++ [y]))) else Nx H3)) : tLc (iList K tl) g tt te vs σ H Q := h
/-- a for over range(j), what stands behind a break known -/
theorem r_turnsB {σ : St} {H : Hp} {n : St → Hp → Prop} {r : VK} {j : Int} {g : TG} {tb : TS} (h1 : -(2 ^ 62) ≤ j) (h2 : j < 2 ^ 62) (M : St → Hp → Prop) (hM : ∀ σ H, M σ H → n σ H) (Pv : Nat → St → Hp → Prop) (h0 : Pv 0 σ H)
    (hs : (∀ σ H, M σ H → n σ H) → ∀ (i : Nat) σ H, (i : Int) < j → Pv i σ H → g (.int (i : Int)) σ H fun σ2 H2 => tb ⟨Pv (i + 1), r, n, Pv (i + 1)⟩ σ2 H2) (hd : ∀ σ H, Pv j.toNat σ H → M σ H) :
    -(2 ^ 62) ≤ j ∧ j < 2 ^ 62 ∧ ∃ W : Nat → Nat → St → Hp → Prop, (∃ m, W 0 m σ H) ∧ ∀ i m σ H, W i m σ H →
    ((Itr 0 j.toNat).stop i H ∧ n σ H) ∨ ((Itr 0 j.toNat).go i H ∧ ∃ N : St → Hp → Prop, (∀ σ' H', N σ' H' → ∃ m', m' < m ∧ W (i + 1) m' σ' H') ∧ ∀ x H', (Itr 0 j.toNat).yld i H x H' → g x σ H' fun σ2 H2 => tb ⟨N, r, n, N⟩ σ2 H2) :=
  r_turns h1 h2 Pv h0 (hs hM) fun σ H p => hM σ H (hd σ H p)
theorem at_end (a : List Int) (v : Int) : atI ((a ++ [v]).map V.int) ((((a ++ [v]).length : Nat) : Int) - 1) = some (.int v) := by
  rw [show (((a ++ [v]).length : Nat) : Int) - 1 = ((a.length : Nat) : Int) by rw [List.length_append]; show ((a.length + 1 : Nat) : Int) - 1 = _; omega]
  refine atI_nat ?_
  rw [List.getElem?_map, List.getElem?_append_right (Nat.le_refl _), Nat.sub_self]
  rfl
theorem r_lc0 {σ : St} {H : Hp} {Q : VK} {ta : TA} {g : TG} {tt : TT} {te : TE} {vs : List Nat} (h : ta σ H fun ws H1 => ∃ j : Int, ws = [.int j] ∧ -(2 ^ 62) ≤ j ∧ j < 2 ^ 62 ∧ ∀ D, H1 D = none → ∃ W : Nat → Nat → Hp → Prop, (∃ m, W 0 m (upd H1 D (.lst []))) ∧ ∀ i m H, W i m H →
  ((Itr 0 j.toNat).stop i H ∧ Q (.ref D) H) ∨ ((Itr 0 j.toNat).go i H ∧ ∃ Nx : Hp → Prop, (∀ H', Nx H' → ∃ m', m' < m ∧ W (i + 1) m' H') ∧ ∀ x H', (Itr 0 j.toNat).yld i H x H' → g x (wipe σ vs) H' fun σ2 H2 => wipe σ2 vs = wipe σ vs ∧ tt σ2 H2 fun b H3 =>
    if b = true then te σ2 H3 fun y H4 => ∃ acc, H4 D = some (.lst acc) ∧ acc.length < sizeLine ∧ Nx (upd H4 D (.lst (acc ++ [y]))) else Nx H3)) : tLc (iRng1 ta) g tt te vs σ H Q := h

/-! ### more rules of general use -/
theorem r_lcT {σ : St} {H : Hp} {Q : VK} {K : PySem.W.Frag} {tl : TE} {g : TG} {tt : TT} {te : TE} {vs : List Nat} (h : tl σ H fun x H1 => ∃ a, x = .ref a ∧ (∃ xs, SqT K H1 a xs) ∧ ∀ D, H1 D = none → ∃ W : Nat → Nat → Hp → Prop, (∃ m, W 0 m (upd H1 D (.lst []))) ∧ ∀ i m H, W i m H →
  ((Itt K a).stop i H ∧ Q (.ref D) H) ∨ ((Itt K a).go i H ∧ ∃ Nx : Hp → Prop, (∀ H', Nx H' → ∃ m', m' < m ∧ W (i + 1) m' H') ∧ ∀ x H', (Itt K a).yld i H x H' → g x (wipe σ vs) H' fun σ2 H2 => wipe σ2 vs = wipe σ vs ∧ tt σ2 H2 fun b H3 =>
    if b = true then te σ2 H3 fun y H4 => ∃ acc, H4 D = some (.lst acc) ∧ acc.length < sizeLine ∧ Nx (upd H4 D (.lst (acc ++ [y]))) else Nx H3)) : tLc (iTup K tl) g tt te vs σ H Q := h
theorem r_gunl {σ : St} {H : Hp} {K : PySem.W.Frag} {p : Addr} {xs : List V} {n : Nat} {t : TGs} {R : St → Hp → Prop} (hs : SqL K H p xs) (hl : xs.length = n) (h : t xs σ H R) : gUnl K n t (.ref p) σ H R := ⟨p, xs, rfl, hs, hl, h⟩
theorem cut_from {zs : List Int} {d : Nat} : cutV (zs.map V.int) (some (d : Nat)) none = (zs.drop d).map V.int := by
  unfold cutV
  rw [HT.sIx_nat, HT.sIx_none, List.length_map]
  by_cases h : d ≤ zs.length
  · rw [Nat.min_eq_left h, List.take_of_length_le (by rw [List.length_drop, List.length_map]; omega), List.map_drop]
  · rw [Nat.min_eq_right (by omega), List.drop_of_length_le (by rw [List.length_map]; omega), List.drop_of_length_le (by omega)]
    simp
theorem cut_mid {zs : List Int} {d e : Nat} (h : d ≤ e) : cutV (zs.map V.int) (some (d : Nat)) (some (e : Nat)) = ((zs.drop d).take (e - d)).map V.int := by
  unfold cutV
  rw [HT.sIx_nat, HT.sIx_nat, List.length_map]
  by_cases h1 : e ≤ zs.length
  · rw [Nat.min_eq_left h1, Nat.min_eq_left (by omega), List.map_take, List.map_drop]
  · by_cases h2 : d ≤ zs.length
    · rw [Nat.min_eq_right (by omega), Nat.min_eq_left h2, List.map_take, List.map_drop, List.take_of_length_le (by rw [List.length_drop, List.length_map]; omega), List.take_of_length_le (by rw [List.length_drop, List.length_map]; omega)]
    · rw [Nat.min_eq_right (by omega), Nat.min_eq_right (by omega), Nat.sub_self, List.take_zero, List.drop_of_length_le (l := zs) (by omega)]
      simp
theorem cut_to' {zs : List Int} {d : Nat} : cutV (zs.map V.int) none (some (d : Nat)) = (zs.take d).map V.int := by
  unfold cutV
  rw [HT.sIx_nat, HT.sIx_none, List.length_map, List.drop_zero, Nat.sub_zero, List.map_take]
  by_cases h : d ≤ zs.length
  · rw [Nat.min_eq_left h]
  · rw [Nat.min_eq_right (by omega), List.take_of_length_le (by rw [List.length_map]; omega), List.take_of_length_le (by rw [List.length_map]; omega)]
/-- list + list, both of integers -/
theorem r_catI {a b : Addr} {xs ys : List Int} {H : Hp} {Q : VK} (h1 : H a = some (.lst (xs.map V.int))) (h2 : H b = some (.lst (ys.map V.int))) (hl : xs.length + ys.length ≤ 1000) (h : ∀ p H', H p = none → H' p = some (.lst ((xs ++ ys).map V.int)) → Same H H' → Q (.ref p) H') : rCat (.ref a) (.ref b) H Q :=
  ⟨a, b, _, _, rfl, rfl, h1, h2, Nat.le_of_lt (small1000 (by rw [List.length_map, List.length_map]; exact hl)), fun p hp => h p _ hp (by rw [upd_same, cat_ints]) (same_upd hp _)⟩
theorem r_slI {K : PySem.W.Frag} {p : Addr} {xs ys : List Int} {lo hi : Option Int} {H : Hp} {Q : VK} (hs : H p = some (.lst (xs.map V.int))) (e : cutV (xs.map V.int) lo hi = ys.map V.int) (h : ∀ q H', H q = none → H' q = some (.lst (ys.map V.int)) → Same H H' → Q (.ref q) H') : rSlL K (.ref p) lo hi H Q :=
  r_slL (SqL.of hs) fun q hq => h q _ hq (by rw [upd_same, e]) (same_upd hq _)
/-- a new list or tuple -/
theorem r_nw {o : HO} {R : Addr → Hp → Prop} {c : Prop} {H : Hp} (hc : c) (h : ∀ (p : Addr) (H' : Hp), H p = none → H' p = some o → Same H H' → R p H') : c ∧ ∀ p, H p = none → R p (upd H p o) :=
  ⟨hc, fun p hp => h p _ hp upd_same (same_upd hp o)⟩
theorem r_nwI {zs : List Int} {R : Addr → Hp → Prop} {c : Prop} {H : Hp} (hc : c) (h : ∀ (p : Addr) (H' : Hp), H p = none → H' p = some (.lst (zs.map V.int)) → Same H H' → R p H') : c ∧ ∀ p, H p = none → R p (upd H p (.lst (zs.map V.int))) :=
  r_nw hc h
theorem same_tup {K : PySem.W.Frag} {H H' : Hp} {a : Addr} {xs : List V} (e : Same H H') (h : SqT K H a xs) : SqT K H' a xs := by
  rcases h with (h | ⟨o, h⟩) | h
  · exact .inl (.inl (e _ _ h))
  · exact .inl (.inr ⟨o, e _ _ h⟩)
  · exact .inr h
theorem same_seq {K : PySem.W.Frag} {H H' : Hp} {a : Addr} {xs : List V} (e : Same H H') (h : SqL K H a xs ∨ SqT K H a xs) : SqL K H' a xs ∨ SqT K H' a xs := h.elim (fun q => .inl (e.seq q)) fun q => .inr (same_tup e q)
theorem same_away {H1 H' : Hp} {D : Addr} {o : HO} (s : Same H1 H') (n : H1 D = none) : Same H1 (upd H' D o) := fun b u h => by
  rw [upd_ne (ne_of_none h n)]
  exact s b u h
theorem rep1 (n : Nat) (z : Int) : (List.replicate n [V.int z]).flatten = (List.replicate n z).map V.int := by
  induction n with
  | zero => rfl
  | succ n ih => rw [List.replicate_succ, List.replicate_succ, List.flatten_cons, ih]; rfl
/-- [z] * k -/
theorem r_repI {a : Addr} {z k : Int} {H : Hp} {Q : VK} (h1 : H a = some (.lst [.int z])) (h0 : -1000 ≤ k) (hk : k ≤ 1000) (h : ∀ p H', H p = none → H' p = some (.lst ((List.replicate k.toNat z).map V.int)) → Same H H' → Q (.ref p) H') : rRep (.ref a) (.int k) H Q :=
  ⟨a, k, [.int z], rfl, rfl, h1, by omega, by omega, Nat.le_of_lt (small1000 (by show 1 * _ ≤ 1000; omega)), fun p hp => h p _ hp (by rw [upd_same, rep1]) (same_upd hp _)⟩
def sp0 (f : Hp → VK → XK → Prop) : Sp := fun vs H Q E => vs = [] ∧ f H Q E
theorem len0 {f} (vs : List V) (H : Hp) (Q : VK) (E : XK) (h : sp0 f vs H Q E) : vs.length = 0 := by
  obtain ⟨rfl, _⟩ := h
  rfl
theorem ffl {i : Int} (h1 : -(2 ^ 62) ≤ i) (h2 : i < 2 ^ 62) : Builtin.Range.rangeFitsLong i = true := by
  unfold Builtin.Range.rangeFitsLong
  rw [decide_eq_true (by omega), decide_eq_true (by omega)]
  rfl
theorem rgP (n c k : Nat) (hn : n < 2 ^ 60) (h0 : 0 < c) (hc : c < 1000) (hk : k = (n + (c - 1)) / c) : RgC 0 (n : Nat) (c : Nat) k := by
  have hkn : k ≤ n + (c - 1) := by
    rw [hk]
    exact Nat.div_le_self _ _
  have e : Builtin.Range.rangeSize 0 (n : Nat) (c : Nat) = ((k : Nat) : Int) := by
    unfold Builtin.Range.rangeSize
    rw [if_pos (by omega)]
    by_cases z : n = 0
    · subst z
      rw [if_neg (by omega)]
      have : k = 0 := by rw [hk, Nat.zero_add]; exact Nat.div_eq_of_lt (by omega)
      omega
    · rw [if_pos (by omega)]
      have e1 : ((n : Nat) : Int) - 0 - 1 = ((n - 1 : Nat) : Int) := by omega
      rw [e1]
      have e2 : (n + (c - 1)) / c = (n - 1) / c + 1 := by
        rw [show n + (c - 1) = n - 1 + c by omega, Nat.add_div_right _ h0]
      rw [hk, e2]
      simp
  have hs : Builtin.Range.small 0 (n : Nat) (c : Nat) = true := by
    unfold Builtin.Range.small
    rw [e, ffl (by decide) (by decide), ffl (by omega) (by omega), ffl (by omega) (by omega), ffl (by omega) (by omega), if_pos (by omega), ffl (by omega) (by omega)]
    simp
  exact ⟨by omega, by omega, hs, e⟩
/-- list.extend -/
theorem r_extI {a b : Addr} {xs ys : List Int} {H : Hp} {Q : VK} (h1 : H a = some (.lst (xs.map V.int))) (h2 : H b = some (.lst (ys.map V.int))) (hl : xs.length + ys.length ≤ 4000) (h : ∀ H', H' a = some (.lst ((xs ++ ys).map V.int)) → (∀ b o, b ≠ a → H b = some o → H' b = some o) → (∀ H1, Same H1 H → H1 a = none → Same H1 H') → Q .non H') : rExtend (.ref a) [.ref b] H Q :=
  ⟨a, b, _, _, rfl, rfl, h1, h2, Nat.le_trans (by rw [List.length_map, List.length_map]; exact hl) (by decide : 4000 ≤ sizeLine), h _ (by rw [upd_same, cat_ints]) (fun b o n e => by rw [upd_ne n]; exact e) fun H1 s n => same_away s n⟩
/-- a slice of a row, list or tuple -/
theorem r_slSeq {K : PySem.W.Frag} {p : Addr} {xs : List Int} {d e : Nat} {H : Hp} {Q : VK} (hde : d ≤ e) (hs : SqL K H p (xs.map V.int) ∨ SqT K H p (xs.map V.int)) (h : ∀ q H', SqL K H' q (((xs.drop d).take (e - d)).map V.int) ∨ SqT K H' q (((xs.drop d).take (e - d)).map V.int) → Same H H' → Q (.ref q) H') : rSlL K (.ref p) (some (d : Nat)) (some (e : Nat)) H Q ∨ rSlA K (.ref p) (some (d : Nat)) (some (e : Nat)) H Q := by
  rcases hs with hs | hs
  · refine .inl (r_slL hs fun q hq => h q _ (.inl (SqL.of ?_)) (same_upd hq _))
    rw [upd_same, cut_mid hde]
  · refine .inr ⟨p, _, rfl, hs, fun hw => ?_, fun _ q hq => ?_⟩
    · refine h p H (.inr ?_) (Same.refl H)
      obtain ⟨w1, w2⟩ := hw
      rw [HT.sIx_nat, List.length_map] at w1 w2
      by_cases c : d = 0
      · subst c
        rw [List.drop_zero, List.take_of_length_le (by omega)]
        exact hs
      · have e0 : xs.length = 0 := by omega
        have e1 : xs = [] := List.length_eq_zero_iff.mp e0
        subst e1
        simpa using hs
    · refine h q _ (.inr (SqT.of ?_)) (same_upd hq _)
      rw [upd_same, cut_mid hde]
theorem pe_c0 {X : Cx} {k j : Nat} {x : Str} {sp : Sp} {dvs : List V} {p pos : Pos} (c : Cal X.prog X.w X.K X.mg X.base k x sp dvs) (hr : Room j X.A) (hk : k ≤ j) (hg : Gl X x) (hdb : (x == ("__debug__" : Str)) = false := by decide) : PE X (.Call (.Name x p) [] [] pos) (tCall sp dvs C8.E0 tNil) := by
  obtain ⟨f, fd, ps, ds, F, hm, hk', b, d⟩ := c.ex
  exact pe_call0 F (hr.mono hk) hg hm hk' b d pass0 hdb

theorem eqv_ints (a b : List Int) : PyData.eqv (.list (a.map PyData.int)) (.list (b.map PyData.int)) = decide (a = b) := PySem.W.ked_eqvAll a b
/-- two rows of integers compared -/
theorem r_eqIL {K : PySem.W.Frag} {p q : Addr} {a b : List Int} {H : Hp} {Q : VK} (h1 : SqL K H p (a.map V.int)) (h2 : SqL K H q (b.map V.int)) (h : Q (.bl (decide (a = b))) H) : rEqD K (.ref p) (.ref q) H Q :=
  r_eqD (.lst h1 (dpa_ints _)) (.lst h2 (dpa_ints _)) (shaped_ints _) (shaped_ints _) (by rw [eqv_ints]; exact h)
theorem r_neIL {K : PySem.W.Frag} {p q : Addr} {a b : List Int} {H : Hp} {Q : VK} (h1 : SqL K H p (a.map V.int)) (h2 : SqL K H q (b.map V.int)) (h : Q (.bl (!decide (a = b))) H) : rNeD K (.ref p) (.ref q) H Q :=
  r_neD (.lst h1 (dpa_ints _)) (.lst h2 (dpa_ints _)) (shaped_ints _) (shaped_ints _) (by rw [eqv_ints]; exact h)
/-- a for over a text -/
theorem r_eachS {σ : St} {H : Hp} {n : St → Hp → Prop} {r : VK} {g : TG} {tb : TS} {z : Str} (Pv : Nat → St → Hp → Prop) (h0 : Pv 0 σ H)
    (hs : ∀ (i : Nat) (c : Nat) σ H, z.cps[i]? = some c → Pv i σ H → g (.str ⟨#[c]⟩) σ H fun σ2 H2 => tb ⟨Pv (i + 1), r, n, Pv (i + 1)⟩ σ2 H2) (hd : ∀ σ H, Pv z.cps.size σ H → n σ H) :
    ∃ W : Nat → Nat → St → Hp → Prop, (∃ m, W 0 m σ H) ∧ ∀ i m σ H, W i m σ H →
    ((Its z).stop i H ∧ n σ H) ∨ ((Its z).go i H ∧ ∃ N : St → Hp → Prop, (∀ σ' H', N σ' H' → ∃ m', m' < m ∧ W (i + 1) m' σ' H') ∧ ∀ x H', (Its z).yld i H x H' → g x σ H' fun σ2 H2 => tb ⟨N, r, n, N⟩ σ2 H2) := by
  refine r_each z.cps.size Pv h0 (fun i σ H hi p => ⟨hi, ?_⟩) fun σ H p => ⟨Nat.le_refl _, hd σ H p⟩
  rintro x _ ⟨rfl, c, hc, rfl⟩
  exact hs i c σ _ hc p
theorem r_itS {σ : St} {H : Hp} {te : TE} {R : It → Hp → Prop} (h : te σ H fun v H1 => ∃ x, v = .str x ∧ R (Its x) H1) : iStr te σ H R := h
def rLenK (K : Frg) : List V → Hp → VK → Prop := fun xs H Q => ∃ p ys, xs = [.ref p] ∧ (SqL K H p ys ∨ SqT K H p ys) ∧ Q (.int ys.length) H
def rListK (K : Frg) : List V → Hp → VK → Prop := fun xs H Q => ∃ p ys, xs = [.ref p] ∧ (SqL K H p ys ∨ SqT K H p ys) ∧ ∀ l, H l = none → Q (.ref l) (upd H l (.lst ys))
def rTupleK (K : Frg) : List V → Hp → VK → Prop := fun xs H Q => ∃ p ys, xs = [.ref p] ∧ ((SqL K H p ys ∧ ∀ l, H l = none → Q (.ref l) (upd H l (.tup ys))) ∨ (SqT K H p ys ∧ Q (.ref p) H))
theorem small4k {n : Nat} (h : n ≤ 4000) : n < sizeLine := Nat.lt_of_le_of_lt h (by decide)
theorem r_ifTF {b : Bool} {A B : Prop} (h1 : b = true → A) (h2 : b = false → B) : if b = true then A else B := by
  cases b with
  | true => exact h1 rfl
  | false => exact h2 rfl

/-! ### sorted: pairs of a tuple of integers and something, no two with the same integers -/
section
open PyProof.Rows PySem.W PySem.Calls
theorem lexLt_irr : ∀ a : List Int, HT.lexLt a a = false
  | [] => rfl
  | x :: xs => by
    rw [HT.lexLt_cons, if_pos rfl]
    exact lexLt_irr xs
theorem lexLt_asym : ∀ a b : List Int, HT.lexLt a b = true → HT.lexLt b a = false
  | [], [], h => by cases h
  | [], y :: ys, _ => rfl
  | x :: xs, [], h => by cases h
  | x :: xs, y :: ys, h => by
    rw [HT.lexLt_cons] at h ⊢
    by_cases e : x = y
    · rw [if_pos e] at h
      rw [if_pos e.symm]
      exact lexLt_asym xs ys h
    · rw [if_neg e] at h
      rw [if_neg (fun q => e q.symm)]
      have := of_decide_eq_true h
      exact decide_eq_false (by omega)
theorem lexLt_ntr : ∀ a b c : List Int, HT.lexLt b a = false → HT.lexLt c b = false → HT.lexLt c a = false
  | [], _, [], _, _ => rfl
  | [], _, z :: zs, _, _ => rfl
  | x :: xs, [], _, h, _ => by cases h
  | x :: xs, y :: ys, [], _, h => by cases h
  | x :: xs, y :: ys, z :: zs, h1, h2 => by
    rw [HT.lexLt_cons] at h1 h2 ⊢
    by_cases e1 : y = x
    · subst e1
      rw [if_pos rfl] at h1
      by_cases e2 : z = y
      · subst e2
        rw [if_pos rfl] at h2 ⊢
        exact lexLt_ntr xs ys zs h1 h2
      · rw [if_neg e2] at h2 ⊢
        exact h2
    · rw [if_neg e1] at h1
      have h1 := of_decide_eq_false h1
      by_cases e2 : z = y
      · subst e2
        rw [if_neg e1]
        exact decide_eq_false h1
      · rw [if_neg e2] at h2
        have h2 := of_decide_eq_false h2
        rw [if_neg (by omega)]
        exact decide_eq_false (by omega)
theorem lexLt_tri : ∀ a b : List Int, HT.lexLt a b = false → HT.lexLt b a = false → a = b
  | [], [], _, _ => rfl
  | [], y :: ys, h, _ => by cases h
  | x :: xs, [], _, h => by cases h
  | x :: xs, y :: ys, h1, h2 => by
    rw [HT.lexLt_cons] at h1 h2
    by_cases e : x = y
    · subst e
      rw [if_pos rfl] at h1 h2
      rw [lexLt_tri xs ys h1 h2]
    · rw [if_neg e] at h1
      rw [if_neg (fun q => e q.symm)] at h2
      have h1 := of_decide_eq_false h1
      have h2 := of_decide_eq_false h2
      omega
theorem lexLt_tr {a b c : List Int} (h1 : HT.lexLt a b = true) (h2 : HT.lexLt b c = true) : HT.lexLt a c = true := by
  cases h : HT.lexLt a c with
  | true => rfl
  | false =>
    have q := lexLt_ntr c a b h (lexLt_asym _ _ h1)
    rw [q] at h2
    cases h2
theorem swo_key {α : Type} (k : α → List Int) : SrtO.Swo fun v u => HT.lexLt (k v) (k u) := ⟨fun x y h => lexLt_asym _ _ h, fun x y z h1 h2 => lexLt_ntr _ _ _ h1 h2⟩
/-- a tuple of these integers in a heap -/
def IsTI (h : Heap) (q : Addr) (ns : List Int) : Prop := ∃ (o : Obj) (its : List Value) (n : Nat), h.get? q = some o ∧ o.cls = .type "tuple" ∧ o.data = .seq its.toArray n ∧ IntsAre its ns
theorem IsTI.keeps {h h' : Heap} {q : Addr} {ns : List Int} (x : IsTI h q ns) (k : ∀ b o, h.get? b = some o → o.cls = .type "tuple" → h'.get? b = some o) : IsTI h' q ns := by
  obtain ⟨o, its, n, h1, h2, h3, h4⟩ := x
  exact ⟨o, its, n, k _ _ h1 h2, h2, h3, h4⟩
theorem readsAll_ints {h : Heap} : ∀ {its : List Value} {ns : List Int}, IntsAre its ns → ReadsAll h its (ns.map PyData.int) []
  | _, _, .nil => .nil
  | _, _, .cons n t r => .cons (.int n t) (readsAll_ints r)
theorem IsTI.reads {h : Heap} {q : Addr} {ns : List Int} (x : IsTI h q ns) : Reads h (.ref q) (.tuple (ns.map PyData.int)) [] := by
  obtain ⟨o, its, n, h1, h2, h3, h4⟩ := x
  exact .tuple h1 h2 h3 (by simpa using readsAll_ints h4)
theorem lay_ints : ∀ ns : List Int, PyData.canLayAll0 (ns.map PyData.int) = true
  | [] => rfl
  | n :: ns => by
    show (PyData.canLay0 (.int n) && PyData.canLayAll0 (ns.map PyData.int)) = true
    rw [lay_ints ns]
    rfl
theorem lay_kd (ns : List Int) : (PyData.tuple (ns.map PyData.int)).canLay0 = true := lay_ints ns
theorem depth_ints : ∀ ns : List Int, PyData.depthAll (ns.map PyData.int) = 0
  | [] => rfl
  | n :: ns => by
    have e := depth_ints ns
    simp [PyData.depthAll, PyData.depth, e]
theorem depth_kd (ns : List Int) : (PyData.tuple (ns.map PyData.int)).depth ≤ 1 := by
  have e := depth_ints ns
  simp [PyData.depth, e]
theorem eqv_kd (a b : List Int) : PyData.eqv (.tuple (a.map PyData.int)) (.tuple (b.map PyData.int)) = decide (a = b) := PySem.W.ked_eqvAll a b
variable {prog : Program} {w : World} {A : Around} {s : Shared}
theorem ti_eqAt {q q' : Addr} {a b : List Int} (h1 : IsTI s.heap q a) (h2 : IsTI s.heap q' b) (hu : A.units + 1 < cLine) : SeqAt.EqAt A s (.ref q) (.ref q') (decide (a = b)) := by
  have e := SeqAt.eqAt_reads _ _ A s _ _ _ _ h1.reads h2.reads (lay_kd a) (lay_kd b) (by
    have := depth_kd a
    have := Nat.min_le_left (PyData.tuple (a.map PyData.int)).depth (PyData.tuple (b.map PyData.int)).depth
    omega)
  rw [eqv_kd] at e
  exact e
theorem ti_lt {q q' : Addr} {a b : List Int} (h1 : IsTI s.heap q a) (h2 : IsTI s.heap q' b) (hu : A.units < cLine) {E : Value → Shared → Prop} {Q : Bool → Shared → Prop} (h : Q (HT.lexLt a b) s) : wpAny (model prog w) A (oneLt' false (.ref q) (.ref q')) Q E s := by
  obtain ⟨o1, i1, n1, a1, a2, a3, a4⟩ := h1
  obtain ⟨o2, i2, n2, b1, b2, b3, b4⟩ := h2
  refine PySem.W.kat_one _ _ (HT.lt_tupInts (items := i1.toArray) (items2 := i2.toArray) ⟨o1, a1, a2, n1, a3⟩ ⟨o2, b1, b2, n2, b3⟩ (by simpa using a4) (by simpa using b4) hu ?_)
  exact h
/-- such a pair -/
def IsEnt (h : Heap) (v : Value) (ns : List Int) : Prop := ∃ (a q u : Addr) (o : Obj) (n : Nat), v = .ref a ∧ h.get? a = some o ∧ o.cls = .type "tuple" ∧ o.data = .seq #[.ref q, .ref u] n ∧ IsTI h q ns
theorem IsEnt.keeps {h h' : Heap} {v : Value} {ns : List Int} (x : IsEnt h v ns) (k : ∀ b o, h.get? b = some o → o.cls = .type "tuple" → h'.get? b = some o) : IsEnt h' v ns := by
  obtain ⟨a, q, u, o, n, e, h1, h2, h3, h4⟩ := x
  exact ⟨a, q, u, o, n, e, k _ _ h1 h2, h2, h3, h4.keeps k⟩
theorem ents_firsts {h : Heap} {k : Value → List Int} : ∀ {vs : List Value}, (∀ v ∈ vs, IsEnt h v (k v)) → ∃ fs : List Value, PySem.W.KatTups h vs fs ∧ fs.length = vs.length ∧ ∀ f ∈ fs, ∃ q ns, f = Value.ref q ∧ IsTI h q ns
  | [], _ => ⟨[], PySem.W.KatTups.nil, rfl, fun _ hm => by simp at hm⟩
  | v :: vs, hp => by
    obtain ⟨fs, h1, h2, h3⟩ := ents_firsts (vs := vs) fun v' hm => hp v' (List.mem_cons_of_mem _ hm)
    obtain ⟨a, q, u, o, n, e, ho, hc, hd, ht⟩ := hp v (List.mem_cons_self ..)
    subst e
    refine ⟨.ref q :: fs, PySem.W.KatTups.cons ho hc hd rfl h1, by rw [List.length_cons, List.length_cons, h2], fun f hm => ?_⟩
    rcases List.mem_cons.mp hm with rfl | hm
    · exact ⟨q, _, rfl, ht⟩
    · exact h3 f hm
theorem ent_cmp {vs : List Value} {k : Value → List Int} (hu : A.units + 1 < cLine) (hp : ∀ v ∈ vs, IsEnt s.heap v (k v)) (hi : ∀ v ∈ vs, ∀ u ∈ vs, k v = k u → v = u) : SrtO.Cmp prog w A s (tuples' false) (fun p => p.1 ∈ vs) (SrtO.lt2 fun v u => HT.lexLt (k v) (k u)) := by
  intro p q hm hm'
  have h1 := hp _ hm
  have h2 := hp _ hm'
  have hij := hi _ hm _ hm'
  show wpAny (model prog w) A (keyLt' (tuples' false) p.1 q.1) (fun r s' => s' = s ∧ r = HT.lexLt (k p.1) (k q.1)) (fun _ _ => False) s
  generalize k p.1 = x at h1 hij ⊢
  generalize k q.1 = y at h2 hij ⊢
  obtain ⟨a, q1, u, o, n, e, ho, hc, hd, t1⟩ := h1
  obtain ⟨a', q2, u', o', n', e', ho', hc', hd', t2⟩ := h2
  rw [e, e'] at hij ⊢
  refine PySem.W.kat_lt ho hd ho' hd' ?_
  show PySem.W.KatLex prog w A false (decide (2 < 2)) _ [(.ref q1, .ref q2), (.ref u, .ref u')] 0 s
  refine PySem.W.kat_cons (ti_eqAt t1 t2 hu prog w _ _ ?_)
  refine PySem.W.kat_go (fun e1 => ?_) (fun e1 => ?_)
  · have ex : x = y := of_decide_eq_true e1
    have ea := hij ex
    have ea : a = a' := by
      injection ea
    subst ea
    have eo : o = o' := Option.some.inj (ho.symm.trans ho')
    subst eo
    rw [hd] at hd'
    have eu : u = u' := by
      injection hd' with e1 e2
      simp at e1
      exact e1.2
    subst eu
    refine PySem.W.kat_yes (PySem.W.kat_cons (SeqAt.EqAt.same _ prog w _ _ ?_))
    refine PySem.W.kat_go (fun e2 => ?_) (fun e2 => by cases e2)
    refine PySem.W.kat_yes (PySem.W.kat_nil ⟨rfl, ?_⟩)
    rw [ex, lexLt_irr]
    rfl
  · exact PySem.W.kat_no (ti_lt t1 t2 (by omega) ⟨rfl, rfl⟩)
theorem ents_sortable {a : Addr} {vs : List Value} {k : Value → List Int} (hu : A.units + 1 < cLine) (h0 : 0 < vs.length) (hp : ∀ v ∈ vs, IsEnt s.heap v (k v)) (hi : ∀ v ∈ vs, ∀ u ∈ vs, k v = k u → v = u) (ha : ∀ o, s.heap.get? a = some o → o.cls ≠ .type "tuple") : SrtO.SortableO prog w A s a vs fun v u => HT.lexLt (k v) (k u) := by
  intro h' keep
  have kp : ∀ b o, s.heap.get? b = some o → o.cls = .type "tuple" → h'.get? b = some o := fun b o e c => keep b o (fun z => by subst z; exact ha o e c) e
  have hp' : ∀ v ∈ vs, IsEnt h' v (k v) := fun v hm => (hp v hm).keeps kp
  obtain ⟨fs, h1, h2, h3⟩ := ents_firsts hp'
  refine ⟨tuples' false, fun Q E hq => ?_, ent_cmp hu hp' hi⟩
  refine PySem.W.kat_kind (T := .type "tuple") h1 (by omega) (fun f hm => ?_) (by rfl) ?_
  · obtain ⟨q, ns, rfl, o, its, n, g1, g2, g3, g4⟩ := h3 f hm
    have e : PySem.W.Looks (model prog w) h' (typeOf (.ref q)) o.cls := (PySem.W.Looks.ld g1).andThen .now
    rw [g2] at e
    exact e
  · have e : (Value.type "tuple" != Value.type "tuple") = false := by first | decide +kernel | rfl | decide
    rw [e]
    exact hq
theorem sorted_ents {l : Addr} {vs : List Value} {k : Value → List Int} {E : Value → Shared → Prop} {Q : Value → Shared → Prop} (hu : A.units + 10 < cLine) (hl : s.heap.IsList l vs.toArray) (hz : vs.length ≤ sizeLine) (hp : ∀ v ∈ vs, IsEnt s.heap v (k v)) (hi : ∀ v ∈ vs, ∀ u ∈ vs, k v = k u → v = u)
    (h : ∀ (h' : Heap) (d : Addr) (out : List Value), SrtO.Srtd (fun v u => HT.lexLt (k v) (k u)) out → SrtO.Stb (fun v u => HT.lexLt (k v) (k u)) out vs → (∀ b o, s.heap.get? b = some o → h'.get? b = some o) → s.heap.objs.size ≤ d → (∃ n, h'.get? d = some (seqObj "list" out.toArray n)) → Q (.ref d) { s with heap := h' }) :
    wpAny (model prog w) A (call (.builtin "sorted") [.ref l]) Q E s := by
  refine SrtO.sorted_ord (swo_key k) hl hz (fun h2 h₁ a ha kk => ?_) fun out hs hb => ?_
  · refine ents_sortable (s := { s with heap := h₁ }) (by
      show A.units + 1 + 1 + 1 < cLine
      omega) (by omega) (fun v hm => (hp v hm).keeps fun b o e _ => (kk b o e).2) hi fun o e => ?_
    have e' : some o = some (seqObj "list" vs.toArray 0) := e.symm.trans ha
    cases e'
    intro c
    exact absurd (Value.type.inj c) (by decide)
  · exact h _ _ out hs hb (fun b o e => sortedAll_old e) (Nat.le_succ _) (sortedAll_at s.heap vs out.toArray)
/-! ### sorted: tuples of integers of any lengths -/
theorem one_lt_ti {q q' : Addr} {a b : List Int} {x : Bool} (h1 : IsTI s.heap q a) (h2 : IsTI s.heap q' b) (hu : A.units + 1 < cLine) {E : Value → Shared → Prop} {Q : Bool → Shared → Prop} (h : Q (HT.lexLt a b) s) : wpAny (model prog w) A (oneLt' x (.ref q) (.ref q')) Q E s := by
  cases x with
  | false => exact ti_lt h1 h2 (by omega) h
  | true =>
    obtain ⟨⟨cls, dd, data, sl⟩, i1, n1, a1, a2, a3, a4⟩ := h1
    obtain ⟨⟨cls2, dd2, data2, sl2⟩, i2, n2, b1, b2, b3, b4⟩ := h2
    simp only at a2 a3 b2 b3
    subst a2 a3 b2 b3
    rw [oneLt'_eq]
    simp only [if_true]
    refine wpAny_bind (wpAny_cRoomFor (by omega) ?_)
    refine wpAny_bind (wpAny_callSpecialIfBound?_slot (name := Str.ofString "__lt__") ⟨_, a1, rfl⟩ PySem.F.slot_tuple_lt (call_meets PySem.F.slot_tuple_lt ⟨_, a1, rfl⟩ PySem.F.entry_tuple_lt (PySem.F.args_tuple_lt_2 _ _) (HT.tuple_lt_ints q q' i1.toArray i2.toArray n1 n2 dd dd2 sl sl2 a b (by simpa using a4) (by simpa using b4)) ⟨a1, b1, ?_⟩))
    exact wpAny_truthy_bool h
theorem ti_lex {fin : Bool} {Q : Bool → Shared → Prop} : ∀ {vs us : List Value} {a b : List Int}, IntsAre vs a → IntsAre us b → (i : Nat) → (hf : a.length + us.length = a.length + us.length) → (∀ r, (∀ c d : List Int, c.length = a.length → d.length = b.length → True) → (r = HT.lexLt a b ∨ (r = fin ∧ (a.length ≤ b.length ∨ b.length ≤ a.length) ∧ HT.lexLt a b = decide (a.length < b.length) ∧ a.take b.length = b.take a.length)) → Q r s) →
    PySem.W.KatLex prog w A true fin Q (vs.zip us) i s
  | _, _, [], b, .nil, hb, i, _, h => by
    show Q fin s
    refine h fin (fun _ _ _ _ => trivial) (.inr ⟨rfl, .inl (Nat.zero_le _), ?_, by simp⟩)
    cases b with
    | nil => rfl
    | cons y ys => rfl
  | _, _, x :: a, [], .cons _ _ ra, .nil, i, _, h => by
    show Q fin s
    exact h fin (fun _ _ _ _ => trivial) (.inr ⟨rfl, .inr (Nat.zero_le _), rfl, by simp⟩)
  | _, _, x :: a, y :: b, .cons _ t ra, .cons _ u rb, i, _, h => by
    show PySem.W.KatLex prog w A true fin Q ((.int x t, .int y u) :: _) i s
    refine PySem.W.kat_cons (SeqAt.EqAt.int_int x t y u prog w _ _ ?_)
    refine PySem.W.kat_go (fun e1 => ?_) (fun e1 => ?_)
    · have ex : x = y := by simpa using e1
      subst ex
      refine PySem.W.kat_yes (ti_lex ra rb (i + 1) rfl fun r _ hr => h r (fun _ _ _ _ => trivial) ?_)
      rw [HT.lexLt_cons, if_pos rfl]
      rcases hr with hr | ⟨hr, h1, h2, h3⟩
      · exact .inl hr
      · refine .inr ⟨hr, ?_, ?_, ?_⟩
        · rw [List.length_cons, List.length_cons]
          omega
        · rw [h2, List.length_cons, List.length_cons]
          exact decide_eq_decide.mpr (by omega)
        · rw [List.length_cons, List.length_cons, List.take_succ_cons, List.take_succ_cons, h3]
    · have ex : ¬ x = y := by simpa using e1
      refine PySem.W.kat_no ?_
      have e3 : HT.lexLt (x :: a) (y :: b) = decide (x < y) := by rw [HT.lexLt_cons, if_neg ex]
      have hq : Q (decide (x < y)) s := h _ (fun _ _ _ _ => trivial) (.inl e3.symm)
      cases hb : (true && i == 0) with
      | true => exact oneLt_int hq
      | false => exact PySem.W.kat_one _ _ (PyProof.Rows.lt_int hq)
theorem ti_tuples {q q' : Addr} {a b : List Int} (h1 : IsTI s.heap q a) (h2 : IsTI s.heap q' b) {E : Value → Shared → Prop} {Q : Bool → Shared → Prop} (h : Q (HT.lexLt a b) s) : wpAny (model prog w) A (keyLt' (tuples' true) (.ref q) (.ref q')) Q E s := by
  obtain ⟨o1, i1, n1, a1, a2, a3, a4⟩ := h1
  obtain ⟨o2, i2, n2, b1, b2, b3, b4⟩ := h2
  refine PySem.W.kat_lt a1 a3 b1 b3 ?_
  have la := a4.length
  have lb := b4.length
  show PySem.W.KatLex prog w A true (decide (i1.toArray.size < i2.toArray.size)) Q (i1.zip i2) 0 s
  refine ti_lex a4 b4 0 rfl fun r _ hr => ?_
  rcases hr with hr | ⟨hr, _, h3, _⟩
  · rw [hr]
    exact h
  · rw [hr]
    have e : decide (i1.toArray.size < i2.toArray.size) = HT.lexLt a b := by
      rw [h3, List.size_toArray, List.size_toArray, la, lb]
    rw [e]
    exact h
def TiV (h : Heap) (v : Value) (ns : List Int) : Prop := ∃ q, v = .ref q ∧ IsTI h q ns
theorem ti_firsts {h : Heap} {k : Value → List Int} : ∀ {vs : List Value}, (∀ v ∈ vs, TiV h v (k v)) → (∀ v ∈ vs, k v ≠ []) → ∃ fs : List Value, PySem.W.KatTups h vs fs ∧ fs.length = vs.length ∧ ∀ f ∈ fs, ∃ x t, f = Value.int x t
  | [], _, _ => ⟨[], PySem.W.KatTups.nil, rfl, fun _ hm => by simp at hm⟩
  | v :: vs, hp, hn => by
    obtain ⟨fs, h1, h2, h3⟩ := ti_firsts (vs := vs) (fun v' hm => hp v' (List.mem_cons_of_mem _ hm)) (fun v' hm => hn v' (List.mem_cons_of_mem _ hm))
    obtain ⟨q, e, o, its, n, ho, hc, hd, ht⟩ := hp v (List.mem_cons_self ..)
    have hne := hn v (List.mem_cons_self ..)
    subst e
    revert hne ht
    generalize k (.ref q) = ns
    intro ht hne
    cases ht with
    | nil => exact absurd rfl hne
    | @cons x t vs' ns' r =>
      refine ⟨.int x t :: fs, PySem.W.KatTups.cons ho hc hd rfl h1, by rw [List.length_cons, List.length_cons, h2], fun f hm => ?_⟩
      rcases List.mem_cons.mp hm with rfl | hm
      · exact ⟨x, t, rfl⟩
      · exact h3 f hm
theorem ti_first {v : Value} {ns : List Int} (h : TiV s.heap v ns) {E : Value → Shared → Prop} {Q : Option Value → Shared → Prop} (q : ∀ r : Option Value, (r.isSome = true ↔ ns ≠ []) → Q r s) : wpAny (model prog w) A (firstOfTuple' v) Q E s := by
  obtain ⟨a, rfl, o, its, n, ho, hc, hd, ht⟩ := h
  rw [PySem.W.kas_first_eq]
  refine wpAny_bind (PySem.W.Looks.here (show PySem.W.Looks (model prog w) s.heap (typeOf (.ref a)) o.cls from (PySem.W.Looks.ld ho).andThen .now) ?_)
  rw [hc, if_neg (by first | decide | simp)]
  refine wpAny_bind (listItems_at ho hd (wpAny_pure ?_))
  refine q _ ?_
  cases ht with
  | nil => simp
  | cons x t r => simp
theorem ti_firstsM {k : Value → List Int} {E : Value → Shared → Prop} : ∀ {vs : List Value} {Q : List (Option Value) → Shared → Prop}, (∀ v ∈ vs, TiV s.heap v (k v)) → (∀ rs : List (Option Value), rs.length = vs.length → (∀ (i : Nat) (v : Value) (r : Option Value), vs[i]? = some v → rs[i]? = some r → (r.isSome = true ↔ k v ≠ [])) → Q rs s) → wpAny (model prog w) A (vs.mapM firstOfTuple') Q E s
  | [], Q, _, h => by
    rw [List.mapM_nil]
    exact wpAny_pure (h [] rfl fun i v r e => by simp at e)
  | v :: vs, Q, hp, h => by
    rw [List.mapM_cons]
    refine wpAny_bind (ti_first (hp v (List.mem_cons_self ..)) fun r hr => ?_)
    refine wpAny_bind (ti_firstsM (vs := vs) (fun v' hm => hp v' (List.mem_cons_of_mem _ hm)) fun rs hl hrs => wpAny_pure (h (r :: rs) (by rw [List.length_cons, List.length_cons, hl]) fun i v' r' e1 e2 => ?_))
    cases i with
    | zero =>
      cases (show some v = some v' from e1)
      cases (show some r = some r' from e2)
      exact hr
    | succ i => exact hrs i v' r' (by simpa using e1) (by simpa using e2)
theorem ti_types {E : Value → Shared → Prop} {k : Value → List Int} {vs : List Value} {Q : Option Value → Shared → Prop} (h0 : 0 < vs.length) (hp : ∀ v ∈ vs, TiV s.heap v (k v)) (h : Q (some (.type "tuple")) s) : wpAny (model prog w) A (oneTypeOnly' vs.toArray) Q E s := by
  obtain ⟨v1, vr, rfl⟩ : ∃ v1 vr, vs = v1 :: vr := by
    match vs, h0 with
    | v1 :: vr, _ => exact ⟨v1, vr, rfl⟩
  rw [oneTypeOnly'_eq, List.mapM_toArray, map_eq_pure_bind]
  refine wpAny_bind (wpAny_bind (PySem.W.kas_mapM (r := .type "tuple") _ (fun v hv Q' hq => ?_) (wpAny_pure ?_)))
  · obtain ⟨a, rfl, o, its, n, ho, hc, hd, ht⟩ := hp v hv
    have e : PySem.W.Looks (model prog w) s.heap (typeOf (.ref a)) o.cls := (PySem.W.Looks.ld ho).andThen .now
    rw [hc] at e
    exact e.here hq
  · have hall2 : ((List.map (fun _ => Value.type "tuple") (v1 :: vr)).toArray.all fun x => x == Value.type "tuple") = true := by
      simp only [List.all_toArray, List.all_map, List.all_eq_true]
      intro _ _
      rfl
    have h1 : (List.map (fun _ => Value.type "tuple") (v1 :: vr)).toArray[0]? = some (Value.type "tuple") := by simp
    rw [h1]
    simp only [hall2, if_true]
    exact wpAny_pure h
theorem ti_kind {k : Value → List Int} {vs : List Value} (h0 : 0 < vs.length) (hp : ∀ v ∈ vs, TiV s.heap v (k v)) : ∃ κ, (κ = tuples' true ∨ κ = general' ∨ κ = oneType') ∧ ∀ (Q : SortKind → Shared → Prop) (E : Value → Shared → Prop), Q κ s → wpAny (model prog w) A (keyKind' vs.toArray) Q E s := by
  by_cases hn : ∀ v ∈ vs, k v ≠ []
  · obtain ⟨fs, h1, h2, h3⟩ := ti_firsts hp hn
    refine ⟨tuples' true, .inl rfl, fun Q E hq => ?_⟩
    refine PySem.W.kat_kind (T := .type "int") h1 (by omega) (fun f hm => ?_) (by rfl) ?_
    · obtain ⟨x, t, rfl⟩ := h3 f hm
      exact PySem.W.Looks.now
    · have e : (Value.type "int" != Value.type "tuple") = true := by first | decide +kernel | rfl | decide
      rw [e]
      exact hq
  · obtain ⟨v, hv, hve⟩ : ∃ v ∈ vs, k v = [] := by
      refine Classical.byContradiction fun q => hn fun v hv e => q ⟨v, hv, e⟩
    obtain ⟨i, hi, hiv⟩ := List.getElem_of_mem hv
    have hiv : vs[i]? = some v := by rw [List.getElem?_eq_getElem hi, hiv]
    have no : ∀ rs : List (Option Value), rs.length = vs.length → (∀ (i : Nat) (v : Value) (r : Option Value), vs[i]? = some v → rs[i]? = some r → (r.isSome = true ↔ k v ≠ [])) → (rs.toArray.all fun x => x.isSome) = false := fun rs hl hrs => by
      cases hh : (rs.toArray.all fun x => x.isSome) with
      | false => rfl
      | true =>
        rw [List.all_toArray, List.all_eq_true] at hh
        have hir : i < rs.length := by omega
        have h1 := hrs i v rs[i] hiv (List.getElem?_eq_getElem hir)
        exact absurd hve (h1.mp (hh _ (List.getElem_mem hir)))
    by_cases hf : ∀ v0, vs[0]? = some v0 → k v0 ≠ []
    · refine ⟨general', .inr (.inl rfl), fun Q E hq => ?_⟩
      rw [kat_kind_eq, List.mapM_toArray, map_eq_pure_bind]
      refine wpAny_bind (wpAny_bind (ti_firstsM hp fun rs hl hrs => wpAny_pure ?_))
      rw [if_neg (by rw [no rs hl hrs]; decide)]
      have h00 : 0 < rs.length := by omega
      have e0 : (rs.toArray[0]?.bind id).isSome = true := by
        have hv0 : vs[0]? = some vs[0] := List.getElem?_eq_getElem h0
        have := (hrs 0 _ rs[0] hv0 (List.getElem?_eq_getElem h00)).mpr (hf _ hv0)
        simp [h00, this]
      rw [if_pos e0]
      exact wpAny_pure hq
    · obtain ⟨v0, hv0, hk0⟩ : ∃ v0, vs[0]? = some v0 ∧ k v0 = [] := by
        refine Classical.byContradiction fun q => hf fun v hv e => q ⟨v, hv, e⟩
      refine ⟨oneType', .inr (.inr rfl), fun Q E hq => ?_⟩
      rw [kat_kind_eq, List.mapM_toArray, map_eq_pure_bind]
      refine wpAny_bind (wpAny_bind (ti_firstsM hp fun rs hl hrs => wpAny_pure ?_))
      rw [if_neg (by rw [no rs hl hrs]; decide)]
      have h00 : 0 < rs.length := by omega
      have e0 : ¬ (rs.toArray[0]?.bind id).isSome = true := by
        have h1 := hrs 0 _ rs[0] hv0 (List.getElem?_eq_getElem h00)
        have h2 : ¬ rs[0].isSome = true := fun z => absurd hk0 (h1.mp z)
        simp [h00]
        simpa using h2
      rw [if_neg e0]
      refine wpAny_bind (ti_types h0 hp ?_)
      exact wpAny_pure hq
theorem ti_cmp {vs : List Value} {k : Value → List Int} {κ : SortKind} (hκ : κ = tuples' true ∨ κ = general' ∨ κ = oneType') (hu : A.units + 1 < cLine) (hp : ∀ v ∈ vs, TiV s.heap v (k v)) : SrtO.Cmp prog w A s κ (fun p => p.1 ∈ vs) (SrtO.lt2 fun v u => HT.lexLt (k v) (k u)) := by
  intro p q hm hm'
  obtain ⟨a, e1, h1⟩ := hp _ hm
  obtain ⟨b, e2, h2⟩ := hp _ hm'
  show wpAny (model prog w) A (keyLt' κ p.1 q.1) (fun r s' => s' = s ∧ r = HT.lexLt (k p.1) (k q.1)) (fun _ _ => False) s
  generalize k p.1 = x at h1 ⊢
  generalize k q.1 = y at h2 ⊢
  rw [e1, e2]
  rcases hκ with e | e | e
  · subst e
    exact ti_tuples h1 h2 ⟨rfl, rfl⟩
  · subst e
    exact one_lt_ti (x := false) h1 h2 hu ⟨rfl, rfl⟩
  · subst e
    exact one_lt_ti (x := true) h1 h2 hu ⟨rfl, rfl⟩
theorem IsTI.of_keeps {h h' : Heap} {v : Value} {ns : List Int} (x : TiV h v ns) (k : ∀ b o, h.get? b = some o → o.cls = .type "tuple" → h'.get? b = some o) : TiV h' v ns := by
  obtain ⟨q, e, t⟩ := x
  exact ⟨q, e, t.keeps k⟩
theorem tis_sortable {a : Addr} {vs : List Value} {k : Value → List Int} (hu : A.units + 1 < cLine) (h0 : 0 < vs.length) (hp : ∀ v ∈ vs, TiV s.heap v (k v)) (ha : ∀ o, s.heap.get? a = some o → o.cls ≠ .type "tuple") : SrtO.SortableO prog w A s a vs fun v u => HT.lexLt (k v) (k u) := by
  intro h' keep
  have kp : ∀ b o, s.heap.get? b = some o → o.cls = .type "tuple" → h'.get? b = some o := fun b o e c => keep b o (fun z => by subst z; exact ha o e c) e
  have hp' : ∀ v ∈ vs, TiV h' v (k v) := fun v hm => IsTI.of_keeps (hp v hm) kp
  obtain ⟨κ, hκ, hk⟩ := ti_kind (prog := prog) (w := w) (A := A) (s := { s with heap := h' }) h0 hp'
  exact ⟨κ, hk, ti_cmp hκ hu hp'⟩
/-- the keys of a dict, one by one -/
theorem rawSrc {d : Addr} {es : Array DictEntry} {ep : Nat} (lo : (d == sysModules) = false) : KdlSrc prog w "dict" d d es.size (fun i v => ∃ en, es[i]? = some en ∧ v = en.key) (fun h => DT.Raw h d es ep) where
  type := fun _ hm => hm.typeIs
  there := fun _ hm => ⟨hm.lt, hm.lt⟩
  keep := fun _ _ hm hk => hm.at' fun o e => hk d (.inl rfl) o e
  notList := by decide
  notTuple := by decide
  hint := fun _ _ _ _ hm hq => kdl_hint_dict hm.typeIs hq
  iter := fun A s hh hm => by
    obtain ⟨o, ho, hc, hdat⟩ := id hm
    refine ⟨_, fun i h => h.IsKeyIter s.heap.objs.size d i es.size ep ∧ DT.Raw h d es ep, fun _ _ hq => L2.iter_keys lo ho hc hdat hq, ?_, ⟨⟨_, Heap.get?_push_size _ rfl, rfl, rfl⟩, hm.push _⟩⟩
    have hne : d ≠ s.heap.objs.size := Nat.ne_of_lt hm.lt
    refine ⟨fun b hb => by simp at hb; simp [hb], fun i h h' st hk => ⟨st.1.at fun o e => hk _ (by simp) o e, st.2.at' fun o e => hk d (by simp) o e⟩, fun i s Q E hi st hQ => ?_, fun s Q E st hQ => ?_, fun i s Q E st hQ => wpAny_pyIter_keyiter st.1 hQ⟩
    · obtain ⟨od, hod, hoc, hdd⟩ := id st.2
      refine L2.next_key_item st.1 hod hdd rfl (Array.getElem?_eq_getElem hi) fun h' hit' hs' => ?_
      exact hQ _ h' s.toks ⟨_, Array.getElem?_eq_getElem hi, rfl⟩ ⟨hit', st.2.at' fun o e => hs'.extBut d o hne e⟩ fun b o hb e => hs'.extBut b o (fun h => hb (by simp [h])) e
    · obtain ⟨od, hod, hoc, hdd⟩ := id st.2
      exact L2.next_key_end hh st.1 hod hdd rfl (Nat.le_refl _) fun h' he' => hQ h' s.toks fun b o hb e => he' b o (fun h => hb (by simp [h])) e
end
/-! ### .. as rules of the layer -/
section
open PyProof.Rows PySem.W PySem.Calls
theorem ints_uniq : ∀ {vs : List Value} {a b : List Int}, IntsAre vs a → IntsAre vs b → a = b
  | _, _, _, .nil, .nil => rfl
  | _, _, _, .cons n t r, .cons _ _ r2 => by rw [ints_uniq r r2]
theorem IsTI.uniq {h : Heap} {q : Addr} {a b : List Int} (x : IsTI h q a) (y : IsTI h q b) : a = b := by
  obtain ⟨o, i, n, h1, h2, h3, h4⟩ := x
  obtain ⟨o', i', n', g1, g2, g3, g4⟩ := y
  rw [h1] at g1
  cases g1
  rw [h3] at g3
  have e : i = i' := by
    injection g3 with e1 e2
    simpa using e1
  subst e
  exact ints_uniq h4 g4
theorem IsEnt.uniq {h : Heap} {v : Value} {a b : List Int} (x : IsEnt h v a) (y : IsEnt h v b) : a = b := by
  obtain ⟨t, q, u, o, n, e, h1, h2, h3, h4⟩ := x
  obtain ⟨t', q', u', o', n', e', g1, g2, g3, g4⟩ := y
  rw [e] at e'
  cases e'
  rw [h1] at g1
  cases g1
  rw [h3] at g3
  have e : q = q' := by
    injection g3 with e1 e2
    simp at e1
    exact e1.1
  subst e
  exact h4.uniq g4
open Classical in
noncomputable def entK (h : Heap) (v : Value) : List Int := if hx : ∃ ns, IsEnt h v ns then Classical.choose hx else []
theorem entK_is {h : Heap} {v : Value} {ns : List Int} (x : IsEnt h v ns) : entK h v = ns := by
  have hx : ∃ ns, IsEnt h v ns := ⟨ns, x⟩
  unfold entK
  rw [dif_pos hx]
  exact (Classical.choose_spec hx).uniq x
open Classical in
noncomputable def tiK (h : Heap) (v : Value) : List Int := if hx : ∃ ns, TiV h v ns then Classical.choose hx else []
theorem TiV.uniq {h : Heap} {v : Value} {a b : List Int} (x : TiV h v a) (y : TiV h v b) : a = b := by
  obtain ⟨q, e, t⟩ := x
  obtain ⟨q', e', t'⟩ := y
  rw [e] at e'
  cases e'
  exact t.uniq t'
theorem tiK_is {h : Heap} {v : Value} {ns : List Int} (x : TiV h v ns) : tiK h v = ns := by
  have hx : ∃ ns, TiV h v ns := ⟨ns, x⟩
  unfold tiK
  rw [dif_pos hx]
  exact (Classical.choose_spec hx).uniq x
structure Ent where
  t : Addr
  q : Addr
  u : Addr
  k : List Int
def EntAt (H : Hp) (e : Ent) : Prop := H e.t = some (.tup [.ref e.q, .ref e.u]) ∧ H e.q = some (.tup (e.k.map V.int))
variable {X : Cx}
theorem ti_of {pins : List (Addr × Obj)} {σ : L2.St} {H : Hp} {s : Shared} (I : L2.Inv X pins σ H s) {q : Addr} {ns : List Int} (h : H q = some (.tup (ns.map V.int))) : IsTI s.heap q ns := by
  obtain ⟨_, its, rv, o, ho, hc, n, hd⟩ := I.hok _ _ h
  exact ⟨o, its, n, ho, hc, hd, rv.ints⟩
theorem ent_of {pins : List (Addr × Obj)} {σ : L2.St} {H : Hp} {s : Shared} (I : L2.Inv X pins σ H s) {e : Ent} (h : EntAt H e) : IsEnt s.heap (.ref e.t) e.k := by
  obtain ⟨h1, h2⟩ := h
  obtain ⟨_, its, rv, o, ho, hc, n, hd⟩ := I.hok _ _ h1
  obtain ⟨u1, u2, rfl, r1, r2⟩ := vals2 rv
  cases r1
  cases r2
  exact ⟨e.t, e.q, e.u, o, n, rfl, ho, hc, hd, ti_of I h2⟩
theorem vals_refs {α : Type} (f : α → Addr) : ∀ {l : List α} {us : List Value}, Vals (l.map fun z => V.ref (f z)) us → us = l.map fun z => Value.ref (f z)
  | [], us, h => by cases h; rfl
  | z :: l, us, h => by
    cases h with
    | cons r t =>
      cases r
      rw [vals_refs f t]
      rfl
theorem vals_refsB {α : Type} (f : α → Addr) : ∀ (l : List α), Vals (l.map fun z => V.ref (f z)) (l.map fun z => Value.ref (f z))
  | [] => .nil
  | z :: l => .cons rfl (vals_refsB f l)
theorem perm_up {α β : Type} (f : α → β) : ∀ {out : List β} {l : List α}, out.Perm (l.map f) → ∃ zs : List α, zs.Perm l ∧ zs.map f = out := by
  intro out l h
  generalize hm : l.map f = m at h
  induction h generalizing l with
  | nil =>
    cases l with
    | nil => exact ⟨[], .refl _, rfl⟩
    | cons x l => cases hm
  | @cons b out m p ih =>
    cases l with
    | nil => cases hm
    | cons x l =>
      injection hm with e1 e2
      obtain ⟨zs, pz, ez⟩ := ih e2
      exact ⟨x :: zs, pz.cons x, by rw [List.map_cons, e1, ez]⟩
  | swap b c m =>
    cases l with
    | nil => cases hm
    | cons x l =>
      cases l with
      | nil => cases hm
      | cons y l =>
        injection hm with e1 e2
        injection e2 with e2 e3
        exact ⟨y :: x :: l, .swap _ _ _, by rw [List.map_cons, List.map_cons, e1, e2, e3]⟩
  | trans p1 p2 ih1 ih2 =>
    obtain ⟨z2, q2, e2⟩ := ih2 hm
    obtain ⟨z1, q1, e1⟩ := ih1 e2
    exact ⟨z1, q1.trans q2, e1⟩
/-- sorted(xs), xs a list of pairs of a tuple of integers and an object, no two with the same integers -/
def rSortedE (K : PySem.W.Frag) : List V → Hp → VK → Prop := fun vs H Q => ∃ (a : Addr) (es : List Ent), vs = [V.ref a] ∧ SqL K H a (es.map fun e => V.ref e.t) ∧ (∀ e ∈ es, EntAt H e) ∧ (es.map (·.k)).Nodup ∧
  ∀ (es' : List Ent) (p : Addr), es'.Perm es → (es'.map (·.k)).Pairwise (fun x y => HT.lexLt x y = true) → H p = none → Q (.ref p) (upd H p (.lst (es'.map fun e => V.ref e.t)))
theorem strict_of {l : List (List Int)} (h1 : l.Pairwise (fun x y => HT.lexLt y x = false)) (h2 : l.Nodup) : l.Pairwise (fun x y => HT.lexLt x y = true) := by
  refine (List.Pairwise.and h1 h2).imp fun {x y} ⟨a, b⟩ => ?_
  cases h : HT.lexLt x y with
  | true => rfl
  | false => exact absurd (lexLt_tri _ _ h a) b
theorem cr_sortedE (hu : X.A.units + 64 < cLine) : CallR X (.builtin "sorted") (rSortedE X.K) := by
  intro pins s σ H vs us Q I r h
  obtain ⟨a, es, rfl, hs, he, hn, q⟩ := h
  obtain ⟨its, rv, hl, hz⟩ := I.list hs
  obtain ⟨u, rfl, ru⟩ := vals1 r
  obtain rfl : u = Value.ref a := ru
  have ei := vals_refs (fun e : Ent => e.t) rv
  have at_ : ∀ v ∈ its, ∃ e ∈ es, v = .ref e.t ∧ entK s.heap v = e.k ∧ IsEnt s.heap v e.k := fun v hv => by
    rw [ei] at hv
    obtain ⟨e, hm, rfl⟩ := List.mem_map.mp hv
    have x := ent_of I (he e hm)
    exact ⟨e, hm, rfl, entK_is x, x⟩
  have inj : ∀ e ∈ es, ∀ f ∈ es, e.k = f.k → e = f := fun e h1 f h2 hk => by
    obtain ⟨i, hi, ei⟩ := List.getElem_of_mem h1
    obtain ⟨j, hj, ej⟩ := List.getElem_of_mem h2
    have := List.pairwise_iff_getElem.mp hn
    rcases Nat.lt_trichotomy i j with c | c | c
    · have q := this i j (by rw [List.length_map]; exact hi) (by rw [List.length_map]; exact hj) c
      rw [List.getElem_map, List.getElem_map, ei, ej] at q
      exact absurd hk q
    · subst c
      exact ei.symm.trans ej
    · have q := this j i (by rw [List.length_map]; exact hj) (by rw [List.length_map]; exact hi) c
      rw [List.getElem_map, List.getElem_map, ei, ej] at q
      exact absurd hk.symm q
  refine sorted_ents (k := entK s.heap) (by omega) hl.isList (by rw [← rv.length]; exact hz) (fun v hv => ?_) (fun v hv u hu' hk => ?_) fun h' d out h1 h2 kp hd hn' => ?_
  · obtain ⟨e, _, _, e2, x⟩ := at_ v hv
    rw [e2]
    exact x
  · obtain ⟨e, m1, e1, e2, _⟩ := at_ v hv
    obtain ⟨f, m2, f1, f2, _⟩ := at_ u hu'
    rw [e2, f2] at hk
    rw [e1, f1, inj e m1 f m2 hk]
  · have pe := h2.perm
    rw [ei] at pe
    obtain ⟨zs, pz, ez⟩ := perm_up (fun e : Ent => Value.ref e.t) pe
    obtain ⟨n, hn'⟩ := hn'
    have srt : (zs.map (·.k)).Pairwise (fun x y => HT.lexLt y x = false) := by
      have h1' := h1
      rw [← ez] at h1'
      have h1'' := List.pairwise_map.mp h1'
      rw [List.pairwise_map]
      refine List.Pairwise.imp_of_mem (fun {x y} hx hy hxy => ?_) h1''
      have ex := entK_is (ent_of I (he x (pz.mem_iff.mp hx)))
      have ey := entK_is (ent_of I (he y (pz.mem_iff.mp hy)))
      have hxy : HT.lexLt (entK s.heap (.ref y.t)) (entK s.heap (.ref x.t)) = false := hxy
      rw [ex, ey] at hxy
      exact hxy
    have nd : (zs.map (·.k)).Nodup := (pz.map (·.k)).nodup_iff.mpr hn
    refine ⟨.ref d, upd H d (.lst (zs.map fun e => V.ref e.t)), I.laid (t' := s.toks) kp hd ⟨?_, out, n, ?_, hn'⟩, rfl, q zs d pz (strict_of srt nd) (I.hok.fresh hd)⟩
    · rw [List.length_map, pz.length_eq]
      rw [List.length_map] at hz
      exact hz
    · rw [← ez]
      exact vals_refsB (fun e : Ent => e.t) zs
/-- sorted(d), d a dict whose keys are tuples of integers: the keys themselves, in order -/
def rSortedTD : List V → Hp → VK → Prop := fun vs H Q => ∃ (a : Addr) (kvs : List (List L2.Key × V)) (ks : List (List Int)), vs = [.ref a] ∧ H a = some (.dT kvs) ∧ kvs.map (·.1) = ks.map (·.map Sum.inl) ∧
  ∀ (p : Addr) (qs : List (Addr × List Int)), (qs.map (·.2)).Perm ks → (qs.map (·.2)).Pairwise (fun x y => HT.lexLt x y = true) → (∀ z ∈ qs, H z.1 = some (.tup (z.2.map V.int))) → H p = none → Q (.ref p) (upd H p (.lst (qs.map fun z => V.ref z.1)))
theorem kv_ints (ns : List Int) : (ns.map (Sum.inl : Int → L2.Key)).map kV = ns.map V.int := by
  rw [List.map_map]
  rfl
theorem cr_sortedTD (hcalm : X.calm = true) (hu : X.A.units + 64 < cLine) : CallR X (.builtin "sorted") rSortedTD := by
  intro pins s σ H xs us Q I r h
  obtain ⟨a, kvs, ks, rfl, ha, hks, q⟩ := h
  obtain ⟨u, eu, rx⟩ := vals1 r
  subst eu
  cases rx
  obtain ⟨z, lo, xs', rel, o, es, ep, ho, hx, hdat, hes, hn⟩ := (show ObjOk X.prog X.w H s.heap a (.dT kvs) from I.hok a _ ha)
  have l1 : kvs.length = xs'.length := Paired.length rel
  have l2 : es.size = xs'.length := by
    have e := congrArg List.length hes
    rw [Array.length_toList, List.length_map] at e
    exact e
  have l3 : kvs.length = ks.length := by
    have e := congrArg List.length hks
    rw [List.length_map, List.length_map] at e
    exact e
  have hr : DT.Raw s.heap a es ep := ⟨o, ho, hx, hdat⟩
  have at_ : ∀ (j : Nat) (e : Addr × List Int), ((xs'.map (·.2.1)).zip ks)[j]? = some e → H e.1 = some (.tup (e.2.map V.int)) := by
    intro j e hj
    obtain ⟨h1, h2⟩ := List.getElem?_zip_eq_some.mp hj
    rw [List.getElem?_map] at h1
    obtain ⟨x, hx1, hx2⟩ := Option.map_eq_some_iff.mp h1
    have hjl : j < kvs.length := by
      have := (List.getElem?_eq_some_iff.mp hx1).1
      omega
    obtain ⟨b, hb, r1, r2, r3⟩ := L2.paired_get rel (List.getElem?_eq_getElem hjl)
    rw [hx1] at hb
    cases hb
    have hk : (kvs.map (·.1))[j]? = some kvs[j].1 := by rw [List.getElem?_map, List.getElem?_eq_getElem hjl]; rfl
    rw [hks, List.getElem?_map, h2] at hk
    have hk : e.2.map Sum.inl = kvs[j].1 := Option.some.inj hk
    rw [← hx2, r2, ← hk, kv_ints]
  refine Calls.call_function_entry PyProof.Rows.kind_sorted PyProof.Rows.plain_sorted PyProof.Rows.entry_sorted (PyProof.Rows.args_sorted1 _) ?_
  unfold Builtin.«sorted»
  refine wpAny_bind (m := checkCount "sorted" 1 1 _) (wpAny_pure ?_)
  refine wpAny_bind (PySem.W.kdu_collect (A := X.A.in1) (rawSrc (es := es) (ep := ep) lo) (I.ok.hd hcalm) hr (by rw [l2, ← l1]; exact z) fun h' tk acc hk hacc => ?_)
  have hal : acc.toList.length = es.size := by rw [Array.length_toList, hacc.1]
  have hae : acc.toList = ((xs'.map (·.2.1)).zip ks).map fun e => Value.ref e.1 := by
    refine List.ext_getElem? fun j => ?_
    by_cases hj : j < acc.toList.length
    · have hj2 : j < xs'.length := by omega
      obtain ⟨en, he, hv⟩ := hacc.2 j acc.toList[j] (by rw [← Array.getElem?_toList]; exact List.getElem?_eq_getElem hj)
      rw [← Array.getElem?_toList, hes, List.getElem?_map, List.getElem?_eq_getElem hj2] at he
      have he : entryOfKey (tupleKind (mixKind X.prog X.w)) xs'[j] = en := Option.some.inj he
      rw [List.getElem?_eq_getElem hj, hv, ← he, List.getElem?_map]
      have hz : ((xs'.map (·.2.1)).zip ks)[j]? = some (xs'[j].2.1, ks[j]'(by omega)) := by
        rw [List.getElem?_zip_eq_some]
        exact ⟨by rw [List.getElem?_map, List.getElem?_eq_getElem hj2]; rfl, List.getElem?_eq_getElem (by omega)⟩
      rw [hz]
      rfl
    · rw [List.getElem?_eq_none (by omega), List.getElem?_eq_none]
      rw [List.length_map, List.length_zip, List.length_map]
      omega
  have I1 : L2.Inv X pins σ H { s with heap := h', toks := tk } := I.kept hk
  refine wpAny_bind (wpAny_newList ?_ (by rw [hal, l2, ← l1]; exact z))
  have hoL : (h'.push (seqObj "list" acc.toList.toArray 0)).get? h'.objs.size = some (seqObj "list" acc.toList.toArray 0) := Heap.get?_push_size _ rfl
  have hkeep : ∀ b o, h'.get? b = some o → b ≠ h'.objs.size ∧ (h'.push (seqObj "list" acc.toList.toArray 0)).get? b = some o := fun b o e => ⟨Nat.ne_of_lt (Heap.lt_size e), Heap.get?_push_of_some _ e⟩
  show wpAny _ _ _ _ _ { s with heap := h'.push (seqObj "list" acc.toList.toArray 0), toks := tk }
  have tis : ∀ v ∈ acc.toList, TiV s.heap v (tiK s.heap v) := fun v hv => by
    rw [hae] at hv
    obtain ⟨e, hm, rfl⟩ := List.mem_map.mp hv
    obtain ⟨j, hj⟩ := List.mem_iff_getElem?.mp hm
    have x : TiV s.heap (.ref e.1) e.2 := ⟨e.1, rfl, ti_of I (at_ j e hj)⟩
    rw [tiK_is x]
    exact x
  refine wpAny_bind (wpAny_holding (wpAny_call_entry PyProof.Rows.slot_list_sort ⟨_, hoL, rfl⟩ PyProof.Rows.entry_list_sort
    (SrtO.list_sort_ord (s := { s with heap := h'.push (seqObj "list" acc.toList.toArray 0), toks := tk }) (swo_key (tiK s.heap)) hoL (by rw [hal, l2, ← l1]; exact z) (fun h2 => ?_) fun out hs hb => ⟨_, rfl, ?_⟩) (PyProof.Rows.args_list_sort _)))
  · refine tis_sortable (by
      show X.A.units + 1 + 1 + 1 < cLine
      omega) (by omega) (fun v hv => IsTI.of_keeps (tis v hv) fun b o e _ => (hkeep b o (hk b o e)).2) fun o e => ?_
    have e' : some o = some (seqObj "list" acc.toList.toArray 0) := e.symm.trans hoL
    cases e'
    intro c
    exact absurd (Value.type.inj c) (by decide)
  · have pe := hb.perm
    rw [hae] at pe
    obtain ⟨zs, pz, ez⟩ := perm_up (fun e : Addr × List Int => Value.ref e.1) pe
    obtain ⟨e', he'⟩ := PyProof.Rows.sortedHeap_at (vs := acc.toList) (out := out.toArray) hoL
    have hzk : ∀ e ∈ zs, H e.1 = some (.tup (e.2.map V.int)) := fun e hm => by
      obtain ⟨j, hj⟩ := List.mem_iff_getElem?.mp (pz.mem_iff.mp hm)
      exact at_ j e hj
    have hks2 : ((xs'.map (·.2.1)).zip ks).map (·.2) = ks := List.map_snd_zip (by rw [List.length_map]; omega)
    have pks : (zs.map (·.2)).Perm ks := by
      have q := pz.map (·.2)
      rw [hks2] at q
      exact q
    have nd : ks.Nodup := by
      have e1 : xs'.map (·.1) = ks.map (·.map Sum.inl) := by
        rw [← hks]
        clear hn hes l1 l2 l3 at_ hae hal hacc tis pe pz hks2 hks ha z
        induction rel with
        | nil => rfl
        | cons r t ih =>
          rw [List.map_cons, List.map_cons, ih, r.1]
      rw [e1] at hn
      exact List.Pairwise.of_map _ (fun a b h e => h (congrArg _ e)) hn
    have srt : (zs.map (·.2)).Pairwise (fun x y => HT.lexLt y x = false) := by
      have h1' := hs
      rw [← ez] at h1'
      have h1'' := List.pairwise_map.mp h1'
      rw [List.pairwise_map]
      refine List.Pairwise.imp_of_mem (fun {x y} hx hy hxy => ?_) h1''
      have ex := tiK_is (h := s.heap) (v := .ref x.1) ⟨x.1, rfl, ti_of I (hzk x hx)⟩
      have ey := tiK_is (h := s.heap) (v := .ref y.1) ⟨y.1, rfl, ti_of I (hzk y hy)⟩
      have hxy : HT.lexLt (tiK s.heap (.ref y.1)) (tiK s.heap (.ref x.1)) = false := hxy
      rw [ex, ey] at hxy
      exact hxy
    have hn0 : H h'.objs.size = none := I1.hok.fresh (Nat.le_refl _)
    refine wpAny_pure ⟨_, rfl, .ref h'.objs.size, upd H h'.objs.size (.lst (zs.map fun z => V.ref z.1)), I1.laid (t' := tk) (fun b u e => ?_) (Nat.le_refl _) ⟨?_, out, e', ?_, he'⟩, rfl, q h'.objs.size zs pks (strict_of srt (pks.nodup_iff.mpr nd)) hzk hn0⟩
    · exact (PyProof.Rows.sortedHeap_old (hkeep b u e).1 (Heap.lt_size (hkeep b u e).2)).trans (hkeep b u e).2
    · have e1 := pz.length_eq
      rw [List.length_map, e1, List.length_zip, List.length_map]
      omega
    · rw [← ez]
      exact vals_refsB (fun e : Addr × List Int => e.1) zs
end

local macro_rules | `(tactic| walk_at "rd1") => `(tactic| first
  | (with_reducible refine r_sl ?_)
  | (with_reducible refine r_part ?_)
  | (with_reducible refine r_some ?_)
  | (with_reducible refine r_nopart ?_)
  | (with_reducible refine r_rng2 ?_)
  | (with_reducible refine r_rng3 ?_)
  | (with_reducible refine r_itL ?_)
  | (with_reducible refine r_itT ?_)
  | (with_reducible refine r_lcT ?_)
  | (with_reducible refine r_lcL ?_)
  | (with_reducible refine r_lc0 ?_))
local macro_rules | `(tactic| walk_at "ri1") => `(tactic| first
  | (with_reducible refine r_sl ?_)
  | (with_reducible refine r_part ?_)
  | (with_reducible refine r_some ?_)
  | (with_reducible refine r_nopart ?_)
  | (with_reducible refine r_rng2 ?_)
  | (with_reducible refine r_rng3 ?_)
  | (with_reducible refine r_itL ?_)
  | (with_reducible refine r_itT ?_)
  | (with_reducible refine r_lcT ?_)
  | (with_reducible refine r_lcL ?_)
  | (with_reducible refine r_lc0 ?_))

local macro_rules | `(tactic| walk_at "rd1") => `(tactic| first
  | (with_reducible refine r_callS ?_)
  | (with_reducible refine r_methS ?_)
  | (with_reducible refine r_raz ?_)
  | (with_reducible refine r_ost ?_)
  | (with_reducible refine r_xf ?_))
local macro_rules | `(tactic| walk_at "ri1") => `(tactic| first
  | (with_reducible refine r_callS ?_)
  | (with_reducible refine r_methS ?_)
  | (with_reducible refine r_raz ?_)
  | (with_reducible refine r_ost ?_)
  | (with_reducible refine r_xf ?_))
local macro_rules | `(tactic| walk_at "rh1") => `(tactic| first
  | (with_reducible refine r_callS ?_)
  | (with_reducible refine r_methS ?_)
  | (with_reducible refine r_raz ?_)
  | (with_reducible refine r_ost ?_)
  | (with_reducible refine r_xf ?_))

/-! ### the digits of a number, as texts -/
section
open PySem.NumText
def dg (n : Nat) : List Nat := (Nat.toDigits 10 n).map Char.toNat
theorem str_dg (n : Nat) : Str.ofString (toString ((n : Nat) : Int)) = S (dg n) := (S_tl _).symm.trans (congrArg S (PySem.W.KIN.signs_num n))
theorem str_dgI {i : Int} (h : 0 ≤ i) : Str.ofString (toString i) = S (dg i.toNat) := by
  have e : ((i.toNat : Nat) : Int) = i := Int.toNat_of_nonneg h
  rw [← str_dg, e]
theorem dgc (d : Nat) (h : d < 10) : (Nat.digitChar d).toNat = 48 + d := by
  revert d
  decide
theorem dg_lt {d : Nat} (h : d < 10) : dg d = [48 + d] := by
  unfold dg
  rw [Nat.toDigits_of_lt_base h]
  show [(Nat.digitChar d).toNat] = _
  rw [dgc d h]
theorem dg_step {n : Nat} (h : 10 ≤ n) : dg n = dg (n / 10) ++ [48 + n % 10] := by
  have hm : n % 10 < 10 := Nat.mod_lt n (by decide)
  have t : Nat.toDigits 10 (n / 10) ++ Nat.toDigits 10 (n % 10) = Nat.toDigits 10 (10 * (n / 10) + n % 10) := Nat.toDigits_append_toDigits (by decide) (by omega) hm
  rw [Nat.div_add_mod] at t
  unfold dg
  rw [← t, List.map_append, Nat.toDigits_of_lt_base hm]
  show _ ++ [(Nat.digitChar (n % 10)).toNat] = _
  rw [dgc _ hm]
theorem dg_val (n : Nat) : digitsVal (dg n) = n := PySem.W.KIN.val_back n
theorem dg_all (n : Nat) : AllDigits (dg n) := by
  induction n using Nat.strongRecOn with
  | _ n ih =>
    by_cases h : n < 10
    · rw [dg_lt h]
      intro c hc
      have e : c = 48 + n := by simpa using hc
      omega
    · rw [dg_step (by omega)]
      intro c hc
      rcases List.mem_append.mp hc with hc | hc
      · exact ih (n / 10) (by omega) c hc
      · have e : c = 48 + n % 10 := by simpa using hc
        omega
theorem dg_pos (n : Nat) : 0 < (dg n).length := by
  by_cases h : n < 10
  · rw [dg_lt h]
    exact Nat.one_pos
  · rw [dg_step (by omega), List.length_append]
    show 0 < _ + 1
    omega
theorem dg_ne (n : Nat) : dg n ≠ [] := fun e => by
  have := dg_pos n
  rw [e] at this
  cases this
theorem dg_len : ∀ (k n : Nat), n < 10 ^ (k + 1) → (dg n).length ≤ k + 1
  | 0, n, h => by
    rw [dg_lt (by simpa using h)]
    exact Nat.le_refl _
  | k + 1, n, h => by
    by_cases c : n < 10
    · rw [dg_lt c]
      show 1 ≤ _
      omega
    · rw [dg_step (by omega), List.length_append]
      have := dg_len k (n / 10) (by rw [Nat.pow_succ] at h; omega)
      show _ + 1 ≤ _
      omega
theorem dg_lenP {k n : Nat} (h : n < 10 ^ k) : (dg n).length ≤ k + 1 := dg_len k n (Nat.lt_of_lt_of_le h (Nat.pow_le_pow_right (by decide) (Nat.le_succ k)))
/-- k digits of r -/
def pad : Nat → Nat → List Nat
  | 0, _ => []
  | k + 1, r => pad k (r / 10) ++ [48 + r % 10]
theorem pad_len : ∀ (k r : Nat), (pad k r).length = k
  | 0, _ => rfl
  | k + 1, r => by
    show (pad k (r / 10) ++ [48 + r % 10]).length = _
    rw [List.length_append, pad_len k]
    rfl
theorem pad_zero : ∀ k : Nat, pad k 0 = List.replicate k 48
  | 0 => rfl
  | k + 1 => by
    show pad k 0 ++ [48] = _
    rw [pad_zero k, List.replicate_succ']
theorem dg_pad : ∀ (k q r : Nat), 0 < q → r < 10 ^ k → dg (q * 10 ^ k + r) = dg q ++ pad k r
  | 0, q, r, _, h => by
    have e : r = 0 := by
      have : (10 : Nat) ^ 0 = 1 := rfl
      omega
    rw [e, Nat.pow_zero, Nat.mul_one, Nat.add_zero]
    exact (List.append_nil _).symm
  | k + 1, q, r, hq, h => by
    have hp : 0 < 10 ^ k := Nat.pow_pos (by decide)
    have e10 : q * 10 ^ (k + 1) = 10 * (q * 10 ^ k) := by
      rw [Nat.pow_succ, ← Nat.mul_assoc, Nat.mul_comm]
    have hge : 1 ≤ q * 10 ^ k := Nat.mul_pos hq hp
    have hr : r / 10 < 10 ^ k := by
      rw [Nat.pow_succ] at h
      omega
    rw [e10, dg_step (by omega), show (10 * (q * 10 ^ k) + r) / 10 = q * 10 ^ k + r / 10 by omega, show (10 * (q * 10 ^ k) + r) % 10 = r % 10 by omega, dg_pad k q (r / 10) hq hr, List.append_assoc]
    rfl
theorem zf : ∀ (k r : Nat), r < 10 ^ (k + 1) → List.replicate (k + 1 - (dg r).length) 48 ++ dg r = pad (k + 1) r
  | 0, r, h => by
    have h : r < 10 := by simpa using h
    rw [dg_lt h]
    show [48 + r] = [48 + r % 10]
    rw [Nat.mod_eq_of_lt h]
  | k + 1, r, h => by
    by_cases c : r < 10
    · rw [dg_lt c]
      show List.replicate (k + 1 + 1 - 1) 48 ++ [48 + r] = pad (k + 1) (r / 10) ++ [48 + r % 10]
      rw [Nat.div_eq_of_lt c, Nat.mod_eq_of_lt c, pad_zero]
      rfl
    · have h2 : r / 10 < 10 ^ (k + 1) := by
        rw [Nat.pow_succ] at h
        omega
      rw [dg_step (by omega), List.length_append]
      show List.replicate (k + 1 + 1 - (_ + 1)) 48 ++ (_ ++ _) = pad (k + 1) (r / 10) ++ [48 + r % 10]
      rw [Nat.add_sub_add_right, ← List.append_assoc, zf k (r / 10) h2]
theorem dg_first (n : Nat) : ∃ c r, dg n = c :: r ∧ 48 ≤ c ∧ c ≤ 57 := by
  cases e : dg n with
  | nil => exact absurd e (dg_ne n)
  | cons c r =>
    have h := dg_all n c (by rw [e]; exact List.mem_cons_self ..)
    exact ⟨c, r, rfl, h⟩
theorem zfill_dg {k r : Nat} (h : r < 10 ^ (k + 1)) : Txt.zfill (S (dg r)) ((k + 1 : Nat) : Int) = S (pad (k + 1) r) := by
  have hl : (S (dg r)).length = (dg r).length := S_len _
  have hk := dg_len k r h
  rw [← zf k r h]
  unfold Txt.zfill
  rw [hl]
  by_cases c : (((k + 1 : Nat) : Int) ≤ ((dg r).length : Int))
  · rw [if_pos c, show k + 1 - (dg r).length = 0 by omega]
    rfl
  · rw [if_neg c]
    obtain ⟨d, t, e, h1, h2⟩ := dg_first r
    have e0 : (S (dg r)).cps[0]? = some d := by
      rw [e]
      rfl
    have e1 : zfilled (S (dg r)) (((k + 1 : Nat) : Int).toNat - (dg r).length) = Builtin.Str.padded (S (dg r)) (((k + 1 : Nat) : Int).toNat - (dg r).length) 0 48 := by
      unfold zfilled
      rw [e0]
      split
      · rename_i q
        cases q
        omega
      · rename_i q
        cases q
        omega
      · rfl
    rw [e1]
    unfold Builtin.Str.padded S
    rw [Int.toNat_natCast]
    congr 1
    apply Array.ext'
    simp
theorem dval_rep (d : List Nat) : ∀ k : Nat, digitsVal (d ++ List.replicate k 48) = digitsVal d * 10 ^ k
  | 0 => by simp
  | k + 1 => by
    rw [List.replicate_succ', ← List.append_assoc, digitsVal_snoc, dval_rep d k, Nat.pow_succ, Nat.sub_self, Nat.add_zero, Nat.mul_assoc]
theorem dval_zeros (d : List Nat) : ∀ k : Nat, digitsVal (List.replicate k 48 ++ d) = digitsVal d
  | 0 => rfl
  | k + 1 => by
    rw [List.replicate_succ, List.cons_append, digitsVal_zero]
    exact dval_zeros d k
theorem all_rep (k : Nat) : AllDigits (List.replicate k 48) := fun c hc => by
  have e := List.eq_of_mem_replicate hc
  omega
theorem all_app {a b : List Nat} (h1 : AllDigits a) (h2 : AllDigits b) : AllDigits (a ++ b) := fun c hc => by
  rcases List.mem_append.mp hc with h | h
  · exact h1 c h
  · exact h2 c h
/-- int(text) of a text of digits, with a sign -/
theorem int_dig {d : List Nat} (h : AllDigits d) (h1 : d ≠ []) (h2 : d.length ≤ 4300) : intText? (S d) = some ((digitsVal d : Nat) : Int) :=
  intText_digits (x := S d) h h1 (by rw [S_len]; exact h2)
theorem int_neg {d : List Nat} (h : AllDigits d) (h1 : d ≠ []) (h2 : d.length < 4300) : intText? (S (45 :: d)) = some (-((digitsVal d : Nat) : Int)) :=
  intText_neg (x := S (45 :: d)) rfl h h1 (by rw [S_len]; exact h2)
theorem int_plus {d : List Nat} (h : AllDigits d) (h1 : d ≠ []) (h2 : d.length < 4300) : intText? (S (43 :: d)) = some ((digitsVal d : Nat) : Int) := by
  have hs : ∀ c ∈ (S (43 :: d)).cps.toList, 33 ≤ c ∧ c < 128 := fun c hc => by
    have hc : c ∈ 43 :: d := hc
    rcases List.mem_cons.mp hc with e | e
    · omega
    · have := h c e
      omega
  have e1 : numTextOf (S (43 :: d)) = 43 :: d := by
    refine if_pos ?_
    rw [← Array.all_toList, List.all_eq_true]
    intro c hc
    exact decide_eq_true (hs c hc).2
  have e2 : numSeenOf (S (43 :: d)) = 43 :: d := by
    show (numTextOf (S (43 :: d))).takeWhile _ = _
    rw [e1]
    refine takeWhile_all fun c hc => ?_
    have := hs c hc
    exact bne_iff_ne.mpr (by omega)
  unfold intText?
  rw [e1, e2, if_pos (beq_self_eq_true _)]
  have e3 : (43 :: d).dropWhile blank = 43 :: d := dropWhile_of (by decide)
  have ec : core (43 :: d) = d := by
    unfold core
    rw [e3]
    show (d.reverse.dropWhile blank).reverse = d
    rw [dropWhile_digits h.reverse, List.reverse_reverse]
  rw [ec, e3, digits_of h h1]
  have hsz := push_size d #[]
  have hv := push_foldl d #[]
  show (if _ ≤ 4300 then some (worth false _) else none) = _
  rw [if_pos (by rw [hsz]; simp only [Array.size_empty]; omega)]
  unfold worth digitsVal
  rw [hv]
  rfl
/-- find of one sign -/
theorem find_none {l : List Nat} {c : Nat} (h : c ∉ l) : Txt.find (S l) (S [c]) = -1 := by
  rcases PyProof.Rows.find_whole (S l) (S [c]) with ⟨e, _⟩ | ⟨i, e, ⟨h1, h2⟩, _⟩
  · exact e
  · exfalso
    unfold Builtin.Str.subAt at h2
    have h3 := congrArg Array.toList (eq_of_beq h2)
    have h4 : ((l.drop i).take 1) = [c] := by
      simpa [S, Str.length] using h3
    have h5 : c ∈ (l.drop i).take 1 := by
      rw [h4]
      exact List.mem_singleton.mpr rfl
    exact h (List.mem_of_mem_drop (List.mem_of_mem_take h5))
theorem find_at {l r : List Nat} {c : Nat} (h : c ∉ l) : Txt.find (S (l ++ c :: r)) (S [c]) = (l.length : Int) := by
  have at_iff : ∀ i : Nat, StrLaws.At (S (l ++ c :: r)) (S [c]) (S (l ++ c :: r)).length i ↔ (l ++ c :: r)[i]? = some c := fun i => by
    unfold StrLaws.At Builtin.Str.subAt
    rw [beq_iff_eq, S_len, S_len]
    constructor
    · rintro ⟨h1, h2⟩
      have h3 := congrArg Array.toList h2
      have h4 : ((l ++ c :: r).drop i).take 1 = [c] := by
        simpa [S, Str.length] using h3
      have h5 := congrArg (fun z : List Nat => z[0]?) h4
      simpa [List.getElem?_take, List.getElem?_drop] using h5
    · intro h1
      obtain ⟨hi, e⟩ := List.getElem?_eq_some_iff.mp h1
      refine ⟨hi, ?_⟩
      apply Array.ext'
      have h4 : ((l ++ c :: r).drop i).take 1 = [c] := by
        rw [List.drop_eq_getElem_cons hi, e]
        rfl
      simpa [S, Str.length] using h4
  rcases PyProof.Rows.find_whole (S (l ++ c :: r)) (S [c]) with ⟨_, hn⟩ | ⟨i, e, h1, h2⟩
  · exact absurd ((at_iff l.length).mpr (by simp)) (hn l.length)
  · rw [e]
    have h1 := (at_iff i).mp h1
    have h3 : i = l.length := by
      rcases Nat.lt_trichotomy i l.length with q | q | q
      · rw [List.getElem?_append_left q] at h1
        exact absurd (List.mem_of_getElem? h1) h
      · exact q
      · exact absurd ((at_iff l.length).mpr (by simp)) (h2 _ q)
    rw [h3]
end

/-! ### texts: str and int of great numbers, a sign many times, join of a row turned round -/
section
open PyProof.Rows
theorem noDig {K : Frg} {h : Heap} (X : K.In h) (e : DigK K) : h.NoDigits := by
  have G := Heap.Ns.of_isNs (PySem.W.isNs_of_in X e.1)
  exact ⟨_, G, PySem.W.ns_none_of X G e.2⟩
theorem call_strW {X : Cx} (hc : X.calm = true) (e : DigK X.K) : CallR X (.type "str") (fun xs H Q => ∃ i : Int, xs = [.int i] ∧ i.natAbs < 10 ^ 4300 ∧ Q (.str (Str.ofString (toString i))) H) := by
  intro pins s σ H xs us Q I r h
  obtain ⟨i, rfl, hz, q⟩ := h
  obtain ⟨u, rfl, t, rfl⟩ := vals1 r
  exact str_of_int_or (I.ok.hd hc) (noDig I.kIn e) (fun _ => ⟨.str _, H, I.tok _, ⟨_, rfl⟩, q⟩) fun h => absurd h (by generalize 10 ^ 4300 = P at *; omega)
theorem op_repS {X : Cx} : OpR X (binaryOp .Mult) (fun x y H Q => ∃ (c : Nat) (n : Int), x = .str (S [c]) ∧ y = .int n ∧ -100000 ≤ n ∧ n ≤ 100000 ∧ Q (.str (S (List.replicate n.toNat c))) H) := by
  intro pins s σ H x y v u Q I rx ry h
  obtain ⟨c, n, rfl, rfl, h0, h1, q⟩ := h
  obtain ⟨t, rfl⟩ := rx
  obtain ⟨t', rfl⟩ := ry
  refine PySem.SB.mul (mulOk_of 1 100000 (Nat.le_refl 1) (by omega) (by omega) (by decide) (by decide)) fun t' k => ⟨.str _, H, I.tok _, ⟨_, rfl⟩, ?_⟩
  have e : Txt.mul (S [c]) n = S (List.replicate n.toNat c) := by
    unfold Txt.mul
    by_cases c1 : n < 1
    · rw [if_pos c1, show n.toNat = 0 by omega]
      rfl
    · rw [if_neg c1]
      by_cases c2 : n = 1
      · subst c2
        rfl
      · have b : (n == 1 || (S [c]).length == 0) = false := by
          have : (n == 1) = false := by simpa using c2
          rw [this]
          rfl
        rw [b, if_neg Bool.false_ne_true]
        have g : ∀ (k : Nat) (a : Array Nat), (List.replicate k (S [c]).cps).foldl (· ++ ·) a = a ++ (List.replicate k c).toArray := by
          intro k
          induction k with
          | zero => intro a; simp
          | succ k ih =>
            intro a
            rw [List.replicate_succ, List.foldl_cons, ih, List.replicate_succ]
            apply Array.ext'
            simp [S]
        rw [g]
        simp [S]
  rw [e]
  exact q
theorem join_rev {prog : Program} {w : World} {A : Around} {E : Value → Shared → Prop} {s : Shared} {x : Str} {t : Tok} {it l : Addr} {items : Array Value} {ys : List Str} {Q : Value → Shared → Prop}
    (hh : A.handled = none) (hit : s.heap.IsRevIter it l ((items.size : Int) - 1)) (hl : s.heap.IsList l items) (hne : l ≠ it) (hn : items.size ≤ sizeLine)
    (hi : ∀ acc : Array Value, ItemsOf (fun i v => items[items.size - 1 - i]? = some v) acc items.size → StrsAre acc.toList ys) (hok : (ys.map (·.length)).sum + ys.length * x.length ≤ 16777216)
    (hq : ∀ h' t' k, (∀ b o, b ≠ it → s.heap.get? b = some o → h'.get? b = some o) → Q (.str (Txt.join x ys) t') { s with heap := h', toks := k }) :
    wpAny (model prog w) A (call (.builtin "str.join") [.str x t, .ref it]) Q E s := by
  refine wpAny_call (codeAny_call_builtin F.slot_str_join.plain F.entry_str_join (F.slot_str_join.check _ _ _ _ _ _ _ _ (typeIs_str _ _ _) (F.args_str_join_2 _ _) ?_))
  rw [join_tree_other]
  refine wpAny_bind (wpAny_typeOf hit.typeIs ?_)
  show wpAny _ A.in1 ((pyIter (.ref it)).tryCatch _ >>= fun it => collect it >>= fun items => joinTail x items) _ _ s
  refine wpAny_bind (wpAny_tryCatch (wpAny_pyIter_revIter hit ?_))
  refine wpAny_bind (RT.collect_rev (A := A.in1) hh hit hl hne hn fun h' tk acc hk hacc => ?_)
  obtain ⟨l', hl', ht⟩ := strsAre_values (hi acc hacc)
  subst ht
  rw [hl']
  have hok' := joinOk_of hok
  unfold JoinOk at hok'
  rw [Bool.not_eq_true'] at hok'
  have g : Gives (joinTail x (strValues l')) (joinMade x l') := by
    have g0 := gives_joinTail x l' hok'
    cases l' with
    | nil => exact g0
    | cons p r => cases r with
      | nil => exact g0
      | cons q r' => exact g0
  exact g prog w A (wants Q E) _ (post_join l' ⟨joinFit_length hok', fun t' k => hq h' t' k hk⟩)
def tJoinRev (K : Frg) (to te : TE) : TE := fun σ H Q => to σ H fun x H1 => (∃ a, x = .str a) ∧ te σ H1 fun v H2 => ∃ (a : Str) (q : Addr) (ys : List Str), x = .str a ∧ v = .ref q ∧ SqL K H2 q (ys.map V.str) ∧
  (ys.reverse.map (·.length)).sum + ys.reverse.length * a.length ≤ 16777216 ∧ Q (.str (Txt.join a ys.reverse)) H2
theorem pe_joinRev {X : Cx} {o e : Expr} {to te : TE} {apos pos p pos2 : Pos} (hc : X.calm = true) (hg : Gl X "reversed") (hm : X.mg "reversed" = none) (ho : PE X o to) (he : PE X e te)
    (hs1 : starEach [.Call (.Name "reversed" p) [e] [] pos2] X.env = [(false, eval (.Call (.Name "reversed" p) [e] [] pos2) X.env)] := by rfl) (hs : starEach [e] X.env = (false, eval e X.env) :: starEach [] X.env := by rfl)
    (hbase : attributeBase o "join" X.env (eval o X.env) = eval o X.env := by rfl) (hline : (apos.endLine == pos.line) = true := by rfl) :
    PE X (.Call (.Attribute o "join" apos) [.Call (.Name "reversed" p) [e] [] pos2] [] pos) (tJoinRev X.K to te) := by
  refine ⟨fun pins s σ H Q I h => ?_⟩
  refine PySem.Call_method1 hbase hs1 hline (thn (ho.run pins s σ H _ I h) fun v s1 ⟨x, H1, I1, r1, q1⟩ => ?_)
  obtain ⟨⟨a, rfl⟩, q1⟩ := q1
  obtain ⟨t, rfl⟩ := _root_.id r1
  refine ⟨"str", _, F.plainAttrs_str, F.slot_str_join, F.type_str_join, typeIs_str _ _ _, (fun _ e => nomatch e), Calls.callWith_builtin rfl (Calls.evalArgs_plain (Calls.spliced_cons ?_))⟩
  refine Call_ (ld_blt I1 hg hm PyProof.Rows.boot_reversed (PyProof.Rows.callWith_type1 (args_cons (thn (he.run pins s1 σ H1 _ I1 q1) fun u s2 ⟨v, H2, I2, r2, q2⟩ => args_nil ?_) hs) hs rfl))
  obtain ⟨a', q, ys, ea, rfl, hq, hz, q2⟩ := q2
  cases ea
  obtain rfl : u = Value.ref q := r2
  obtain ⟨its, rv, p', hsz⟩ := I2.list hq
  refine call_reversed_list p'.isList (Calls.spliced_nil ?_)
  have k0 : ∀ b o, s2.heap.get? b = some o → (s2.heap.push (revObj q ((its.toArray.size : Int) - 1))).get? b = some o := fun b o e => Heap.get?_push_of_some _ e
  have I3 : Inv X pins σ H2 { s2 with heap := s2.heap.push (revObj q ((its.toArray.size : Int) - 1)) } := I2.kept (t' := s2.toks) k0
  obtain ⟨f0, f1, f2, f3, f4, f5⟩ := I2.fpOk (H' := H2) (b := s2.heap.objs.size) (Nat.le_refl _) (I2.hok.fresh (Nat.le_refl _))
  have hl := p'.isList
  obtain ⟨ol, hol, _⟩ := id hl
  have hne : q ≠ s2.heap.objs.size := Nat.ne_of_lt (Heap.lt_size hol)
  have hn : its.toArray.size ≤ sizeLine := by rw [List.size_toArray, ← rv.length]; exact hsz
  refine join_rev (s := { s2 with heap := s2.heap.push (revObj q ((its.toArray.size : Int) - 1)) }) (I2.ok.hd hc) ⟨_, Heap.get?_push_size _ rfl, rfl, rfl⟩ (hl.push _) hne hn (fun acc hacc => ?_) hz fun h' t' k hk => ?_
  · have r3 := RT.vals_rev rv hacc
    rw [← List.map_reverse] at r3
    exact strs_of_vals r3
  · exact ⟨.str _, H2, I3.turned (t' := k) (fun b o hb e => hk b o hb e) f0 f1 f3 f4 f5, ⟨t', rfl⟩, q2⟩
end
/-! int of a text of up to 4,300 digits -/
section
open PySem.Calls PySem.NumText PyProof.Rows PySem.W
theorem wp_textW {M : Model} {A : Around} {E : Value → Shared → Prop} {s : Shared} {Q : Value → Shared → Prop} {v : Value} {text : List Nat} {n : Int} (hn : s.heap.NoDigits)
    (hs : decide ((text.takeWhile (· != 0)).length ≤ 640) = false) (hr : (int_private% "readNumeral") 4300 10 (text.takeWhile (· != 0)) = (int_private% "Numeral.value") n)
    (ha : ((text.takeWhile (· != 0)).length == text.length) = true) (h : Q (.int n s.toks) { s with toks := s.toks + 1 }) :
    wpAny M A ((int_private% "intFromText") v text 10) Q E s := by
  obtain ⟨mc, hns, hnone⟩ := hn
  obtain ⟨hp, g, d, tk, os⟩ := s
  have key : ∀ {A' : Around} {E' : Value → Shared → Prop} {Q' : Nat → Shared → Prop}, Q' 4300 ⟨hp, g, d, tk, os⟩ → wpAny M A' Builtin.intMaxStrDigits Q' E' ⟨hp, g, d, tk, os⟩ := fun q => by
    unfold Builtin.intMaxStrDigits
    refine wpAny_bind (wpAny_nsGet hns ?_)
    rw [hnone]
    exact wpAny_pure q
  repeat (any_goals (first
    | assumption
    | (with_reducible refine wpAny_ite_false hs ?_)
    | (with_reducible refine wpAny_ite_true (decide_eq_true ha) ?_)
    | (with_reducible refine key ?_)
    | wp_step))
  all_goals (try rw [hr])
  all_goals (try dsimp only)
  repeat (any_goals (first
    | assumption
    | (with_reducible refine wpAny_ite_false hs ?_)
    | (with_reducible refine wpAny_ite_true (decide_eq_true ha) ?_)
    | wp_step))
theorem meets_textW {x : PySem.Str} {u : Tok} {n : Int} (hl : x.length ≤ sizeLine) (hn : PySem.intText? x = some n) :
    Meets (Builtin.«int.__new__» ⟨[.type "int", .str x u], []⟩) (fun _ R s => s.heap.NoDigits ∧ R (.ok (.ret (.int n s.toks))) { s with toks := s.toks + 1 }) :=
  .of_wp fun prog w A R s h => by
    obtain ⟨hp, g, d, tk, os⟩ := s
    obtain ⟨hd, h⟩ := h
    have f1 := F.conv_sub_int
    have f2 := F.madeHere_int
    have f3 := KIN.str_int
    have f4 := KIN.str_idx
    have f5 := KIN.str_trunc
    have f6 : typeOf (.str x u) = pure (.type "str") := rfl
    have hr : (int_private% "readNumeral") (numLimitOf x) 10 (numSeenOf x) = (int_private% "Numeral.value") n ∧ ((numSeenOf x).length == (numTextOf x).length) = true := by
      rcases readAny x hl with ⟨m, h1, h2, h3⟩ | ⟨h1, _⟩
      · rw [hn] at h1
        injection h1 with h1
        subst h1
        exact ⟨h3, h2⟩
      · rw [hn] at h1
        cases h1
    have key : ∀ {A' : Around} {E' : Value → Shared → Prop} {Q' : Value → Shared → Prop} {v : Value}, Q' (.int n tk) ⟨hp, g, d, tk + 1, os⟩ → wpAny (model prog w) A' ((int_private% "intFromText") v (numTextOf x) 10) Q' E' ⟨hp, g, d, tk, os⟩ := fun q => by
      by_cases hlen : (numSeenOf x).length ≤ 640
      · have e : numLimitOf x = 0 := if_pos hlen
        rw [e] at hr
        exact KIN.wp_text hlen hr.1 hr.2 q
      · have e : numLimitOf x = 4300 := if_neg hlen
        rw [e] at hr
        exact wp_textW hd (decide_eq_false hlen) hr.1 hr.2 q
    clear hr hl hn
    repeat (any_goals (first
      | assumption
      | (with_reducible refine key ?_)
      | wp_step))
    all_goals first | exact ⟨_, rfl, h⟩ | skip
theorem call_intW {X : Cx} (e : DigK X.K) : CallR X (.type "int") (fun xs H Q => ∃ (a : Str) (n : Int), xs = [.str a] ∧ PySem.intText? a = some n ∧ a.length ≤ 16777216 ∧ Q (.int n) H) := by
  intro pins s σ H xs us Q I r h
  obtain ⟨a, n, rfl, hn, hl, q⟩ := h
  obtain ⟨u, rfl, t, rfl⟩ := vals1 r
  exact call_int_1 (meets_textW (by rw [sizeLine_eq]; exact hl) hn) ⟨noDig I.kIn e, rfl, ⟨.int n, H, I.tok _, ⟨_, rfl⟩, q⟩⟩
end
/-! readings -/
section
variable {σ : St} {H : Hp} {Q : VK} {K : Frg}
theorem r_joinRev {to te : TE} (h : to σ H fun x H1 => (∃ a, x = .str a) ∧ te σ H1 fun v H2 => ∃ (a : Str) (q : Addr) (ys : List Str), x = .str a ∧ v = .ref q ∧ SqL K H2 q (ys.map V.str) ∧
  (ys.reverse.map (·.length)).sum + ys.reverse.length * a.length ≤ 16777216 ∧ Q (.str (Txt.join a ys.reverse)) H2) : tJoinRev K to te σ H Q := h
theorem r_addS {a b : List Nat} (hl : a.length + b.length ≤ 1000000) (h : Q (.str (S (a ++ b))) H) : ∃ i j, V.str (S a) = .str i ∧ V.str (S b) = .str j ∧ i.length + j.length ≤ sizeLine ∧ Q (.str (i ++ j)) H :=
  ⟨_, _, rfl, rfl, by rw [S_len, S_len, sizeLine_eq]; omega, by rw [S_cat]; exact h⟩
theorem r_ixS {a : List Nat} {i c : Nat} (hl : a.length ≤ 1000000) (e : a[i]? = some c) (h : Q (.str (S [c])) H) : rIxS (.str (S a)) (.int (i : Int)) H Q :=
  ⟨_, _, c, rfl, rfl, by rw [S_len, sizeLine_eq]; omega, atI_nat e, h⟩
theorem r_slS {a b : List Nat} {lo hi : Option Int} (hl : a.length ≤ 1000000) (e : cutS (S a) lo hi = S b) (h : Q (.str (S b)) H) : rSlS (.str (S a)) lo hi H Q :=
  ⟨_, rfl, by rw [S_len, sizeLine_eq]; omega, by rw [e]; exact h⟩
theorem cutS_from {a : List Nat} {i : Int} (h : 0 ≤ i) : cutS (S a) (some i) none = S (a.drop i.toNat) := by
  rw [C8.cutS_slice]
  exact slice_from h
theorem cutS_to {a : List Nat} {i : Int} (h : 0 ≤ i) : cutS (S a) none (some i) = S (a.take i.toNat) := by
  rw [C8.cutS_slice]
  exact slice_to h
theorem r_lenS {d : List Nat} {R : Str → Prop} (hl : d.length ≤ 1000000) (h : R (S d)) : ∃ z, [V.str (S d)] = [V.str z] ∧ z.length ≤ sizeLine ∧ R z :=
  ⟨_, rfl, by rw [S_len, sizeLine_eq]; omega, h⟩
theorem r_add {x y : Str} {a b : List Nat} {R : Str → Str → Prop} (ex : x = S a) (ey : y = S b) (hl : a.length + b.length ≤ 1000000) (h : R (S a) (S b)) : ∃ i j, V.str x = .str i ∧ V.str y = .str j ∧ i.length + j.length ≤ sizeLine ∧ R i j := by
  subst ex ey
  exact ⟨_, _, rfl, rfl, by rw [S_len, S_len, sizeLine_eq]; omega, h⟩
theorem r_rep {x : Str} {n : Int} {c : Nat} {R : Nat → Int → Prop} (ex : x = S [c]) (h0 : -100000 ≤ n) (h1 : n ≤ 100000) (h : R c n) : ∃ (c : Nat) (m : Int), V.str x = .str (S [c]) ∧ V.int n = .int m ∧ -100000 ≤ m ∧ m ≤ 100000 ∧ R c m :=
  ⟨c, n, by rw [ex], rfl, h0, h1, h⟩
theorem r_slF {a : List Nat} {i : Int} (h0 : 0 ≤ i) (hl : a.length ≤ 1000000) (h : Q (.str (S (a.drop i.toNat))) H) : rSlS (.str (S a)) (some i) none H Q := r_slS hl (cutS_from h0) h
theorem r_slT {a : List Nat} {i : Int} (h0 : 0 ≤ i) (hl : a.length ≤ 1000000) (h : Q (.str (S (a.take i.toNat))) H) : rSlS (.str (S a)) none (some i) H Q := r_slS hl (cutS_to h0) h
end

/-! ### digits_of -/

def sp_digits_of (K : Frg) : Sp := sp1 fun a H Q _ => ∃ n : Nat, a = .int (n : Int) ∧ n < 10 ^ 4000 ∧ ∀ H', Same H H' → Q (.str (S (dg n))) H'
theorem flat_len : ∀ (ps : List (List Nat)), (ps.map (·.length)).sum = ps.flatten.length
  | [] => rfl
  | p :: ps => by
    rw [List.map_cons, List.sum_cons, List.flatten_cons, List.length_append, flat_len ps]
theorem joinL_nil (ps : List (List Nat)) : Txt.join (S []) (ps.map S) = S ps.flatten := by
  rw [join_S]
  congr 2
  induction ps with
  | nil => rfl
  | cons p ps ih =>
    cases ps with
    | nil => simp [TL.joinL]
    | cons q ps =>
      show p ++ ([] ++ TL.joinL [] (q :: ps)) = _
      rw [ih, List.nil_append]
      rfl
theorem lt4000 {n : Nat} (h : n < 10 ^ 4000) : (dg n).length ≤ 4001 := dg_lenP h
theorem log_lt {i : Int} {k : Nat} (h : i.natAbs < 2 ^ k) (hk : k ≤ 1920) (h0 : 0 < k) : i.natAbs.log2 < 1920 := by
  by_cases e : i.natAbs = 0
  · rw [e]
    decide
  · exact Nat.lt_of_lt_of_le ((Nat.log2_lt e).mpr h) hk
section
variable {P : Program} {w : World} {K : PySem.W.Frag} {mg : Str → Option Value} {base : Heap} {f : Addr} {fd : FuncData}
theorem ok_digits_of (F : FunD K "digits_of" "digits_of" (defArgs s_digits_of) (defBody s_digits_of) (defScope s_digits_of) [] [] (glAd "digits_of" K) fd) (m : mg "digits_of" = some (.ref (glAd "digits_of" K))) (nb : Nm K mg) : Cal P w K mg base 1 "digits_of" (sp_digits_of K) [] := by
  refine calD F m sc_digits_of (fun _ _ _ _ _ _ us hl => match us, hl with | [_], _ => rfl) len1 (fun cdv A outer s H vs Q E hr h => ⟨_, (pss_cons (ps_set (i := 1) sc_digits_of.nd rfl (Or.inl rfl) (pe_lst pa_nil))
    (pss_cons (ps_while PassesOwn.never (pt_cmpR op_ge (pv 0) (pe_gc rfl nb.g_PIECE) (nomark _))
    (pss_cons (ps_asg (pe_callB call_divmodW (by rfl) nb.divmod (by decide +kernel) (pa_cons (pv 0) (pa_cons (pe_gc rfl nb.g_PIECE) pa_nil))) (pg_tup rfl (pgs_cons (pg_name (i := 0) sc_digits_of.nd rfl (Or.inl rfl)) (pgs_cons (pg_name (i := 2) sc_digits_of.nd rfl (Or.inl rfl)) pgs_nil))))
    (pss_one (ps_expr (pe_bm PySem.F.plainAttrs_list PySem.F.slot_list_append PySem.F.type_list_append mt_append (pv 1) (pa_cons (pe_bm PySem.F.plainAttrs_str PySem.F.slot_str_zfill PySem.F.type_str_zfill mt_zfill (pe_callTy call_str_int (by rfl) nb.str (by decide +kernel) (pa_cons (pv 2) pa_nil)) (pa_cons (pe_gc rfl nb.g_PIECE_DIGITS) pa_nil)) pa_nil))))))
    (pss_cons (ps_expr (pe_bm PySem.F.plainAttrs_list PySem.F.slot_list_append PySem.F.type_list_append mt_append (pv 1) (pa_cons (pe_callTy call_str_int (by rfl) nb.str (by decide +kernel) (pa_cons (pv 0) pa_nil)) pa_nil)))
    (pss_one (ps_ret (pe_joinRev rfl rfl nb.reversed pe_str (pv 1))))))), ?_⟩)
  obtain ⟨_, rfl, n, rfl, hn, h⟩ := h
  have hl := lt4000 hn
  generalize 10 ^ 4000 = big at hn
  walk_at "rd"
  refine ⟨Nat.zero_le _, fun p hp => ?_⟩
  walk_at "rd"
  refine r_while (fun k σ H' => ∃ (ps : List (List Nat)) (y : Option V), σ = [some (.int (k : Int)), some (.ref p), y] ∧ dg n = dg k ++ ps.reverse.flatten ∧ H' p = some (.lst ((ps.map S).map V.str)) ∧ Same H H' ∧ ps.length ≤ ps.reverse.flatten.length) n ⟨[], none, rfl, by simp, upd_same, same_upd hp _, Nat.le_refl _⟩ ?_
  rintro k σ H1 ⟨ps, y, rfl, e, hp1, s1, hps⟩
  have hlen : (dg k).length + ps.reverse.flatten.length = (dg n).length := by rw [e, List.length_append]
  walk_at "rd"
  refine r_ite (fun c => ?_) (fun c => ?_)
  · refine r_turn ?_
    walk_at "rd"
    refine ⟨_, _, rfl, ⟨by decide, PyProof.noPylong_of_log2 (by decide +kernel)⟩, fun q hq => ?_⟩
    have s2 := same_upd hq (.tup [.int ((k : Int) / 10000000000000000000000000000000000000000000000000000000000000000), .int ((k : Int) % 10000000000000000000000000000000000000000000000000000000000000000)])
    refine r_gtup (SqT.of upd_same) rfl ?_
    walk_at "rd"
    refine ⟨tyL (s2 _ _ hp1), ?_⟩
    walk_at "rd"
    have e64 : (10 : Nat) ^ 64 = 10000000000000000000000000000000000000000000000000000000000000000 := by decide
    have er : (k : Int) % 10000000000000000000000000000000000000000000000000000000000000000 = ((k % 10 ^ 64 : Nat) : Int) := by
      rw [e64]
      omega
    have eq : (k : Int) / 10000000000000000000000000000000000000000000000000000000000000000 = ((k / 10 ^ 64 : Nat) : Int) := by
      rw [e64]
      omega
    have hr : k % 10 ^ 64 < 10 ^ (63 + 1) := Nat.mod_lt _ (Nat.pow_pos (by decide))
    have hq0 : 0 < k / 10 ^ 64 := Nat.div_pos (by rw [e64]; omega) (Nat.pow_pos (by decide))
    have hk : dg k = dg (k / 10 ^ 64) ++ pad 64 (k % 10 ^ 64) := by
      have q := dg_pad 64 (k / 10 ^ 64) (k % 10 ^ 64) hq0 hr
      rw [Nat.mul_comm, Nat.div_add_mod] at q
      exact q
    have hlt : k / 10 ^ 64 < k := Nat.div_lt_self (by rw [e64] at hq0; omega) (by decide)
    rw [er, eq] at *
    refine ⟨?_, ?_⟩
    · refine log_lt (k := 256) ?_ (by decide) (by decide)
      rw [Int.natAbs_natCast]
      exact Nat.lt_trans hr (by decide)
    rw [str_dg]
    refine ⟨rfl, ?_⟩
    walk_at "rd"
    refine ⟨_, _, rfl, rfl, by decide, ?_⟩
    rw [show (64 : Int) = ((63 + 1 : Nat) : Int) from rfl, zfill_dg hr]
    walk_at "rd"
    refine r_app (s2 _ _ hp1) (small4k (by rw [List.length_map, List.length_map]; have := List.length_reverse (as := ps); have := dg_pos k; omega)) ?_
    walk_at "rd"
    refine ⟨k / 10 ^ 64, hlt, ps ++ [pad 64 (k % 10 ^ 64)], _, rfl, ?_, ?_, ?_, ?_⟩
    · rw [e, hk, List.reverse_append]
      simp
    · rw [upd_same]
      simp
    · intro b o hb
      rw [upd_ne (ne_of_none hb hp)]
      exact s2 _ _ (s1 _ _ hb)
    · rw [List.reverse_append, List.length_append]
      have := pad_len 64 (k % 10 ^ 64)
      simp only [List.reverse_cons, List.reverse_nil, List.nil_append, List.cons_append, List.flatten_cons, List.length_append, this, List.length_cons, List.length_nil]
      omega
  · walk_at "rd"
    refine ⟨tyL hp1, ?_⟩
    walk_at "rd"
    refine ⟨log_lt (k := 256) (by rw [Int.natAbs_natCast]; omega) (by decide) (by decide), ?_⟩
    walk_at "rd"
    rw [str_dg]
    refine r_app hp1 (small4k (by rw [List.length_map, List.length_map]; have := dg_pos k; omega)) ?_
    walk_at "rd"
    refine r_joinRev ?_
    walk_at "rd"
    refine ⟨⟨_, rfl⟩, ?_⟩
    walk_at "rd"
    have e2 : (ps.map S).map V.str ++ [V.str (S (dg k))] = ((ps ++ [dg k]).map S).map V.str := by simp
    refine ⟨S [], p, (ps ++ [dg k]).map S, rfl, rfl, SqL.of (by rw [upd_same, e2]), ?_, ?_⟩
    · rw [← List.map_reverse, lens, flat_len, List.length_map]
      simp only [List.reverse_append, List.reverse_cons, List.reverse_nil, List.nil_append, List.cons_append, List.flatten_cons, List.length_append, List.length_cons, List.length_reverse]
      show _ + _ * 0 ≤ _
      omega
    · rw [← List.map_reverse, joinL_nil]
      have e3 : (ps ++ [dg k]).reverse.flatten = dg n := by
        rw [e, List.reverse_append]
        rfl
      rw [e3]
      refine h _ fun b o hb => ?_
      rw [upd_ne (ne_of_none hb hp)]
      exact s1 _ _ hb
end

/-! ### nested values, and where they stand -/
theorem hu65 {A : Around} {k : Nat} (hr : Room k A) : A.units + 65 < cLine := by
  have := hr.un
  omega
theorem ps_never {X : Cx} {st : Stmt} : PS X st (fun _ _ _ => False) := ⟨fun _ _ _ _ _ _ h => h.elim⟩
inductive Vl where
  | lf (k : Str) (r : List PyData)
  | ls (xs : List Vl)
  | mp (es : List (List Int × Vl))
def kd (k : List Int) : PyData := .tuple (k.map PyData.int)
mutual
def Vl.dat : Vl → PyData
  | .lf k r => .tuple (.str k :: r)
  | .ls xs => .tuple [.str "list", .tuple (datL xs)]
  | .mp es => .tuple [.str "map", .tuple (datM es)]
def datL : List Vl → List PyData
  | [] => []
  | x :: xs => x.dat :: datL xs
def datM : List (List Int × Vl) → List PyData
  | [] => []
  | (k, v) :: es => .tuple [kd k, v.dat] :: datM es
end
/-- leaves -/
inductive Lf : Str → List PyData → Prop
  | null : Lf "null" []
  | truth (b : Bool) : Lf "truth" [.bool b]
  | number (m e : Int) : Lf "number" [.int m, .int e]
  | bytes (os : List Int) (h : os.length ≤ 300) : Lf "bytes" [kd os]
  | text (ps : List Int) (h : ps.length ≤ 200) : Lf "text" [kd ps]
mutual
def Vl.ok : Nat → Vl → Prop
  | _, .lf k r => Lf k r
  | 0, .ls _ => False
  | n + 1, .ls xs => xs.length ≤ 49 ∧ vokL n xs
  | 0, .mp _ => False
  | n + 1, .mp es => es.length ≤ 49 ∧ (es.map (·.1)).Pairwise (fun x y => HT.lexLt x y = true) ∧ (∀ e ∈ es, e.1.length ≤ 200) ∧ vokM n es
def vokL : Nat → List Vl → Prop
  | _, [] => True
  | n, x :: xs => x.ok n ∧ vokL n xs
def vokM : Nat → List (List Int × Vl) → Prop
  | _, [] => True
  | n, (_, v) :: es => v.ok n ∧ vokM n es
end
theorem vokL_app : ∀ {n : Nat} {xs ys : List Vl}, vokL n xs → vokL n ys → vokL n (xs ++ ys)
  | _, [], _, _, h => h
  | _, x :: xs, _, h1, h2 => ⟨h1.1, vokL_app h1.2 h2⟩
theorem vokL_mem : ∀ {n : Nat} {xs : List Vl}, vokL n xs → ∀ x ∈ xs, x.ok n
  | _, [], _, x, h => absurd h (by simp)
  | _, y :: ys, h, x, hx => by
    rcases List.mem_cons.mp hx with e | e
    · rw [e]
      exact h.1
    · exact vokL_mem h.2 x e
theorem vokM_mem : ∀ {n : Nat} {es : List (List Int × Vl)}, vokM n es → ∀ e ∈ es, e.2.ok n
  | _, [], _, x, h => absurd h (by simp)
  | _, (k, v) :: ys, h, x, hx => by
    rcases List.mem_cons.mp hx with e | e
    · rw [e]
      exact h.1
    · exact vokM_mem h.2 x e
theorem vokM_of : ∀ {n : Nat} {es : List (List Int × Vl)}, (∀ e ∈ es, e.2.ok n) → vokM n es
  | _, [], _ => trivial
  | _, (k, v) :: ys, h => ⟨h _ (List.mem_cons_self ..), vokM_of fun e he => h e (List.mem_cons_of_mem _ he)⟩
theorem datL_app : ∀ (xs ys : List Vl), datL (xs ++ ys) = datL xs ++ datL ys
  | [], _ => rfl
  | x :: xs, ys => congrArg (x.dat :: ·) (datL_app xs ys)
theorem datM_map : ∀ (es : List (List Int × Vl)), datM es = es.map fun e => .tuple [kd e.1, e.2.dat]
  | [] => rfl
  | (k, v) :: es => congrArg (PyData.tuple [kd k, v.dat] :: ·) (datM_map es)
theorem datL_map : ∀ (xs : List Vl), datL xs = xs.map Vl.dat
  | [] => rfl
  | x :: xs => congrArg (x.dat :: ·) (datL_map xs)
mutual
inductive Tp (H : Hp) : V → PyData → Prop
  | non : Tp H .non .none
  | bl (b : Bool) : Tp H (.bl b) (.bool b)
  | int (i : Int) : Tp H (.int i) (.int i)
  | str (x : Str) : Tp H (.str x) (.str x)
  | tup {a : Addr} {xs : List V} {ds : List PyData} : H a = some (.tup xs) → TpAll H xs ds → Tp H (.ref a) (.tuple ds)
inductive TpAll (H : Hp) : List V → List PyData → Prop
  | nil : TpAll H [] []
  | cons {v : V} {vs : List V} {d : PyData} {ds : List PyData} : Tp H v d → TpAll H vs ds → TpAll H (v :: vs) (d :: ds)
end
/-- tuples stay -/
def Tk (H H' : Hp) : Prop := ∀ a xs, H a = some (.tup xs) → H' a = some (.tup xs)
theorem Tk.refl (H : Hp) : Tk H H := fun _ _ h => h
theorem Tk.trans {H H1 H2 : Hp} (a : Tk H H1) (b : Tk H1 H2) : Tk H H2 := fun c xs h => b c xs (a c xs h)
theorem Same.tk {H H' : Hp} (s : Same H H') : Tk H H' := fun a xs h => s a _ h
theorem tk_put {H : Hp} {a : Addr} {xs : List V} {o : HO} (h : H a = some (.lst xs)) : Tk H (upd H a o) := fun b ys hb => by
  rw [upd_ne (fun e => by rw [e, h] at hb; cases hb)]
  exact hb
theorem tk_but {H H' : Hp} {a : Addr} {xs : List V} (h : H a = some (.lst xs)) (k : ∀ b o, b ≠ a → H b = some o → H' b = some o) : Tk H H' := fun b ys hb => k b _ (fun e => by rw [e, h] at hb; cases hb) hb
theorem keep_tk {K : Frg} {S : SC} {H H' : Hp} (L : LS K S H) (k : Keep S H H') : Tk H H' := by
  obtain ⟨k1, l, f, e⟩ := L.st
  exact tk_but e fun b o n h => k b o n h
mutual
theorem Tp.tk {H H' : Hp} (k : Tk H H') : ∀ (d : PyData) (v : V), Tp H v d → Tp H' v d
  | .none, _, h => by cases h; exact .non
  | .bool b, _, h => by cases h; exact .bl b
  | .int i, _, h => by cases h; exact .int i
  | .str x, _, h => by cases h; exact .str x
  | .tuple ds, _, h => by
    cases h with
    | tup h1 h2 => exact .tup (k _ _ h1) (TpAll.tk k ds _ h2)
  | .list ds, _, h => by cases h
  | .dict ds, _, h => by cases h
theorem TpAll.tk {H H' : Hp} (k : Tk H H') : ∀ (ds : List PyData) (vs : List V), TpAll H vs ds → TpAll H' vs ds
  | [], _, h => by cases h; exact .nil
  | d :: ds, _, h => by
    cases h with
    | cons h1 h2 => exact .cons (Tp.tk k d _ h1) (TpAll.tk k ds _ h2)
end
mutual
theorem Tp.dp {K : Frg} {H : Hp} : ∀ (d : PyData) (v : V), Tp H v d → Dp K H v d
  | .none, _, h => by cases h; exact .non
  | .bool b, _, h => by cases h; exact .bl b
  | .int i, _, h => by cases h; exact .int i
  | .str x, _, h => by cases h; exact .str x
  | .tuple ds, _, h => by
    cases h with
    | tup h1 h2 => exact .tup (SqT.of h1) (TpAll.dp ds _ h2)
  | .list ds, _, h => by cases h
  | .dict ds, _, h => by cases h
theorem TpAll.dp {K : Frg} {H : Hp} : ∀ (ds : List PyData) (vs : List V), TpAll H vs ds → DpAll K H vs ds
  | [], _, h => by cases h; exact .nil
  | d :: ds, _, h => by
    cases h with
    | cons h1 h2 => exact .cons (Tp.dp d _ h1) (TpAll.dp ds _ h2)
end
theorem tp_tup {H : Hp} {v : V} {ds : List PyData} (h : Tp H v (.tuple ds)) : ∃ a xs, v = .ref a ∧ H a = some (.tup xs) ∧ TpAll H xs ds := by
  cases h with
  | tup h1 h2 => exact ⟨_, _, rfl, h1, h2⟩
theorem tp_ints {H : Hp} : ∀ (ns : List Int), TpAll H (ns.map V.int) (ns.map PyData.int)
  | [] => .nil
  | n :: ns => .cons (.int n) (tp_ints ns)
theorem tp_intsB {H : Hp} : ∀ {xs : List V} (ns : List Int), TpAll H xs (ns.map PyData.int) → xs = ns.map V.int
  | _, [], h => by
    cases h
    rfl
  | _, n :: ns, h => by
    cases h with
    | cons h t =>
      cases h
      rw [tp_intsB ns t]
      rfl
theorem tp_kd {H : Hp} {a : Addr} {ns : List Int} (h : H a = some (.tup (ns.map V.int))) : Tp H (.ref a) (kd ns) := .tup h (tp_ints ns)
theorem tp_kdB {H : Hp} {v : V} {ns : List Int} (h : Tp H v (kd ns)) : ∃ a, v = .ref a ∧ H a = some (.tup (ns.map V.int)) := by
  obtain ⟨a, xs, rfl, h1, h2⟩ := tp_tup h
  rw [tp_intsB ns h2] at h1
  exact ⟨a, rfl, h1⟩
theorem tpAll_app {H : Hp} : ∀ {xs ys : List V} {ds es : List PyData}, TpAll H xs ds → TpAll H ys es → TpAll H (xs ++ ys) (ds ++ es)
  | _, _, _, _, .nil, h => h
  | _, _, _, _, .cons h1 h2, h => .cons h1 (tpAll_app h2 h)
theorem tpAll_len {H : Hp} : ∀ {xs : List V} {ds : List PyData}, TpAll H xs ds → xs.length = ds.length
  | _, _, .nil => rfl
  | _, _, .cons _ h => congrArg (· + 1) (tpAll_len h)
theorem tpAll_get {H : Hp} : ∀ {xs : List V} {ds : List PyData} {i : Nat} {x : V}, TpAll H xs ds → xs[i]? = some x → ∃ d, ds[i]? = some d ∧ Tp H x d
  | [], _, _, _, _, e => by simp at e
  | x :: xs, _, 0, _, .cons h t, e => by
    cases (show some x = some _ from e)
    exact ⟨_, rfl, h⟩
  | x :: xs, _, i + 1, _, .cons h t, e => by
    obtain ⟨d, e1, h1⟩ := tpAll_get (i := i) t (by simpa using e)
    exact ⟨d, by simpa using e1, h1⟩
theorem lay_kds : ∀ (ks : List (List Int)), PyData.canLayAll0 (ks.map kd) = true
  | [] => rfl
  | k :: ks => by
    show (PyData.canLay0 (kd k) && PyData.canLayAll0 (ks.map kd)) = true
    rw [lay_kds ks, show PyData.canLay0 (kd k) = true from lay_kd k]
    rfl
theorem depth_kd1 (k : List Int) : (kd k).depth ≤ 1 := depth_kd k
theorem depth_kds : ∀ (ks : List (List Int)), PyData.depthAll (ks.map kd) ≤ 1
  | [] => by simp [PyData.depthAll]
  | k :: ks => by
    have e := depth_kds ks
    have e2 := depth_kd k
    show max (PyData.depth (kd k)) (PyData.depthAll (ks.map kd)) ≤ 1
    exact Nat.max_le.mpr ⟨e2, e⟩
theorem shaped_kd (k : List Int) : SeqAt.shaped (kd k) = true := by
  unfold SeqAt.shaped
  rw [show PyData.canLay0 (kd k) = true from lay_kd k, decide_eq_true (Nat.le_trans (depth_kd1 k) (by decide))]
  rfl
theorem shaped_kds (ks : List (List Int)) : SeqAt.shaped (.list (ks.map kd)) = true := by
  unfold SeqAt.shaped
  rw [show PyData.canLay0 (.list (ks.map kd)) = true from lay_kds ks, decide_eq_true]
  · rfl
  · have e := depth_kds ks
    show PyData.depthAll (ks.map kd) + 1 ≤ 64
    omega
theorem eqv_kds (k : List Int) : ∀ (ks : List (List Int)), ((ks.map kd).any fun z => PyData.eqv z (kd k)) = decide (k ∈ ks)
  | [] => rfl
  | x :: ks => by
    show (PyData.eqv (kd x) (kd k) || ((ks.map kd).any fun z => PyData.eqv z (kd k))) = _
    rw [eqv_kds k ks, show PyData.eqv (kd x) (kd k) = decide (x = k) from eqv_kd x k]
    by_cases e : x = k
    · rw [e]
      simp
    · rw [decide_eq_false e]
      have : decide (k ∈ x :: ks) = decide (k ∈ ks) := decide_eq_decide.mpr ⟨fun q => by
        rcases List.mem_cons.mp q with q | q
        · exact absurd q.symm e
        · exact q, fun q => List.mem_cons_of_mem _ q⟩
      rw [this]
      rfl

/-! ### events of a value -/
inductive Ev where
  | op (m : Bool)
  | ky (k : List Int)
  | lf (k : Str) (r : List PyData)
  | cl
def kindOf_ (m : Bool) : Str := if m then "map" else "list"
def Ev.dat : Ev → PyData
  | .op m => .tuple [.str "open", .str (kindOf_ m)]
  | .ky k => .tuple [.str "key", kd k]
  | .lf k r => .tuple [.str "leaf", .tuple (.str k :: r)]
  | .cl => .tuple [.str "close"]
mutual
def Vl.evs : Vl → List Ev
  | .lf k r => [.lf k r]
  | .ls xs => .op false :: (evsL xs ++ [.cl])
  | .mp es => .op true :: (evsM es ++ [.cl])
def evsL : List Vl → List Ev
  | [] => []
  | x :: xs => x.evs ++ evsL xs
def evsM : List (List Int × Vl) → List Ev
  | [] => []
  | (k, v) :: es => .ky k :: (v.evs ++ evsM es)
end
theorem evsL_app : ∀ (xs ys : List Vl), evsL (xs ++ ys) = evsL xs ++ evsL ys
  | [], _ => rfl
  | x :: xs, ys => by
    show x.evs ++ evsL (xs ++ ys) = x.evs ++ evsL xs ++ evsL ys
    rw [evsL_app xs ys, List.append_assoc]
theorem evsM_app : ∀ (xs ys : List (List Int × Vl)), evsM (xs ++ ys) = evsM xs ++ evsM ys
  | [], _ => rfl
  | (k, v) :: xs, ys => by
    show Ev.ky k :: (v.evs ++ evsM (xs ++ ys)) = Ev.ky k :: (v.evs ++ evsM xs) ++ evsM ys
    rw [evsM_app xs ys, List.cons_append, List.append_assoc]
theorem evsL_one (x : Vl) : evsL [x] = x.evs := by
  show x.evs ++ [] = x.evs
  rw [List.append_nil]
theorem evsM_one (k : List Int) (x : Vl) : evsM [(k, x)] = .ky k :: x.evs := by
  show Ev.ky k :: (x.evs ++ []) = _
  rw [List.append_nil]
theorem evsL_sub {xs : List Vl} {i : Nat} {x : Vl} (h : xs[i]? = some x) : (evsL (xs.take i)).length + x.evs.length ≤ (evsL xs).length := by
  have e : xs = xs.take i ++ (x :: xs.drop (i + 1)) := by
    obtain ⟨hi, e⟩ := List.getElem?_eq_some_iff.mp h
    rw [← e, List.getElem_cons_drop, List.take_append_drop]
  have q := congrArg (fun l => (evsL l).length) e
  have q : (evsL xs).length = (evsL (xs.take i ++ (x :: xs.drop (i + 1)))).length := q
  rw [evsL_app, List.length_append] at q
  have q2 : (evsL (x :: xs.drop (i + 1))).length = x.evs.length + (evsL (xs.drop (i + 1))).length := List.length_append
  omega
theorem evsM_sub {xs : List (List Int × Vl)} {i : Nat} {k : List Int} {x : Vl} (h : xs[i]? = some (k, x)) : (evsM (xs.take i)).length + 1 + x.evs.length ≤ (evsM xs).length := by
  have e : xs = xs.take i ++ ((k, x) :: xs.drop (i + 1)) := by
    obtain ⟨hi, e⟩ := List.getElem?_eq_some_iff.mp h
    rw [← e, List.getElem_cons_drop, List.take_append_drop]
  have q := congrArg (fun l => (evsM l).length) e
  have q : (evsM xs).length = (evsM (xs.take i ++ ((k, x) :: xs.drop (i + 1)))).length := q
  rw [evsM_app, List.length_append] at q
  have q2 : (evsM ((k, x) :: xs.drop (i + 1))).length = x.evs.length + (evsM (xs.drop (i + 1))).length + 1 := congrArg (· + 1) List.length_append
  omega
def evD (es : List Ev) : List PyData := es.map Ev.dat
theorem evD_app (a b : List Ev) : evD (a ++ b) = evD a ++ evD b := List.map_append

theorem lf_kind {k : Str} {r : List PyData} (h : Lf k r) : k ≠ "list" ∧ k ≠ "map" := by
  cases h <;> exact ⟨by decide +kernel, by decide +kernel⟩
/-- all but the list at p stays -/
def Bt (p : Addr) (H H' : Hp) : Prop := ∀ b o, b ≠ p → H b = some o → H' b = some o
theorem Bt.trans {p : Addr} {H H1 H2 : Hp} (x : Bt p H H1) (y : Bt p H1 H2) : Bt p H H2 := fun b o n h => y b o n (x b o n h)
theorem Bt.of {p : Addr} {H H' : Hp} (s : Same H H') : Bt p H H' := fun b o _ h => s b o h
theorem Bt.put {p : Addr} {H : Hp} (o : HO) : Bt p H (upd H p o) := fun b u n h => (upd_ne n).trans h
theorem Bt.tk {p : Addr} {H H' : Hp} {xs : List V} (h : H p = some (.lst xs)) (k : Bt p H H') : Tk H H' := tk_but h k
theorem small16M {n : Nat} (h : n ≤ 16000100) : n < sizeLine := Nat.lt_of_le_of_lt h (by decide)
theorem cps_ne {a b : Str} (h : ¬ a = b) : decide (a = b) = false := decide_eq_false h
/-- what stands at a list, at a map -/
theorem tp_ls {H : Hp} {v : V} {xs : List Vl} (h : Tp H v (Vl.ls xs).dat) : ∃ a b ws, v = .ref a ∧ H a = some (.tup [.str "list", .ref b]) ∧ H b = some (.tup ws) ∧ TpAll H ws (datL xs) := by
  obtain ⟨a, vs, rfl, h1, h2⟩ := tp_tup (show Tp H v (.tuple [.str "list", .tuple (datL xs)]) from h)
  cases h2 with
  | cons x1 x2 =>
    cases x1
    cases x2 with
    | cons y1 y2 =>
      cases y2
      obtain ⟨b, ws, rfl, g1, g2⟩ := tp_tup y1
      exact ⟨a, b, ws, rfl, h1, g1, g2⟩
theorem tp_mp {H : Hp} {v : V} {es : List (List Int × Vl)} (h : Tp H v (Vl.mp es).dat) : ∃ a b ws, v = .ref a ∧ H a = some (.tup [.str "map", .ref b]) ∧ H b = some (.tup ws) ∧ TpAll H ws (datM es) := by
  obtain ⟨a, vs, rfl, h1, h2⟩ := tp_tup (show Tp H v (.tuple [.str "map", .tuple (datM es)]) from h)
  cases h2 with
  | cons x1 x2 =>
    cases x1
    cases x2 with
    | cons y1 y2 =>
      cases y2
      obtain ⟨b, ws, rfl, g1, g2⟩ := tp_tup y1
      exact ⟨a, b, ws, rfl, h1, g1, g2⟩
theorem tp_en {H : Hp} {v : V} {k : List Int} {d : PyData} (h : Tp H v (.tuple [kd k, d])) : ∃ t q u, v = .ref t ∧ H t = some (.tup [.ref q, u]) ∧ H q = some (.tup (k.map V.int)) ∧ Tp H u d := by
  obtain ⟨a, vs, rfl, h1, h2⟩ := tp_tup h
  cases h2 with
  | cons x1 x2 =>
    cases x2 with
    | cons y1 y2 =>
      cases y2
      obtain ⟨q, rfl, hq⟩ := tp_kdB x1
      exact ⟨a, q, _, rfl, h1, hq, y1⟩
theorem tp_lf {H : Hp} {v : V} {k : Str} {r : List PyData} (h : Tp H v (Vl.lf k r).dat) : ∃ a ws, v = .ref a ∧ H a = some (.tup (.str k :: ws)) ∧ TpAll H ws r := by
  obtain ⟨a, vs, rfl, h1, h2⟩ := tp_tup (show Tp H v (.tuple (.str k :: r)) from h)
  cases h2 with
  | cons x1 x2 =>
    cases x1
    exact ⟨a, _, rfl, h1, x2⟩
theorem datL_get {xs : List Vl} {i : Nat} {d : PyData} (h : (datL xs)[i]? = some d) : ∃ x, xs[i]? = some x ∧ d = x.dat := by
  rw [datL_map, List.getElem?_map] at h
  obtain ⟨x, h1, h2⟩ := Option.map_eq_some_iff.mp h
  exact ⟨x, h1, h2.symm⟩
theorem datM_get {xs : List (List Int × Vl)} {i : Nat} {d : PyData} (h : (datM xs)[i]? = some d) : ∃ k x, xs[i]? = some (k, x) ∧ d = .tuple [kd k, x.dat] := by
  rw [datM_map, List.getElem?_map] at h
  obtain ⟨x, h1, h2⟩ := Option.map_eq_some_iff.mp h
  exact ⟨x.1, x.2, h1, h2.symm⟩
theorem take_one {α : Type} {l : List α} {i : Nat} {x : α} (h : l[i]? = some x) : l.take (i + 1) = l.take i ++ [x] := by
  rw [List.take_succ, h]
  rfl
theorem str_list : ¬ ("map" : Str) = "list" := by decide +kernel
theorem evsL_len {xs : List Vl} : (Vl.ls xs).evs.length = (evsL xs).length + 2 := by
  show (evsL xs ++ [Ev.cl]).length + 1 = _
  rw [List.length_append]
  rfl
theorem evsM_len {xs : List (List Int × Vl)} : (Vl.mp xs).evs.length = (evsM xs).length + 2 := by
  show (evsM xs ++ [Ev.cl]).length + 1 = _
  rw [List.length_append]
  rfl
theorem tp_ev2 {H : Hp} {T : Addr} {k : Str} {v : V} {d : PyData} (h : H T = some (.tup [.str k, v])) (hv : Tp H v d) : Tp H (.ref T) (.tuple [.str k, d]) := .tup h (.cons (.str _) (.cons hv .nil))
theorem tp_cl {H : Hp} {T : Addr} (h : H T = some (.tup [.str "close"])) : Tp H (.ref T) Ev.cl.dat := .tup h (.cons (.str _) .nil)
theorem evD_len (es : List Ev) : (evD es).length = es.length := List.length_map _

theorem r_din {σ : St} {H : Hp} {Q : VK} {td ty : TE} (h : ty σ H fun y H1 => td σ H1 fun x H2 => ∃ a o, x = .ref a ∧ DGet H2 a y o ∧ Q (.bl o.isSome) H2) : tDIn ty td σ H Q := h
theorem r_dput {σ : St} {H : Hp} {n b c : St → Hp → Prop} {r : VK} {td ty tv : TE} (h : tv σ H fun v H1 => td σ H1 fun x H2 => ty σ H2 fun y H3 => ∃ a H4, x = .ref a ∧ DPut H3 a y v H4 ∧ n σ H4) : sDPut td ty tv ⟨n, r, b, c⟩ σ H := h

/-! ### heaps, step by step: what one change leaves, what many leave -/
/-- a alone is changed, and it was no tuple -/
def Eb (a : Addr) (H H' : Hp) : Prop := (∀ b, b ≠ a → H' b = H b) ∧ ∀ xs, H a ≠ some (.tup xs)
/-- all but o stays, tuples stay wherever they are -/
def Ch (o : List Addr) (H H' : Hp) : Prop := ∀ x u, H x = some u → (x ∈ o → ∃ xs, u = .tup xs) → H' x = some u
section
variable {o o2 : List Addr} {H H1 H2 H' : Hp} {a x : Addr} {u : HO} {xs : List V}
theorem Eb.get (e : Eb a H H') (n : x ≠ a) (h : H x = some u) : H' x = some u := (e.1 x n).trans h
theorem Eb.upd {o : HO} (h : H a = some u) (n : ∀ xs, u ≠ .tup xs) : Eb a H (upd H a o) := ⟨fun b hb => upd_ne hb, fun xs e => by rw [h] at e; exact n xs (Option.some.inj e)⟩
theorem Ch.get (c : Ch o H H') (n : x ∉ o) (h : H x = some u) : H' x = some u := c x u h fun z => absurd z n
theorem Ch.tup (c : Ch o H H') (h : H x = some (.tup xs)) : H' x = some (.tup xs) := c x _ h fun _ => ⟨xs, rfl⟩
theorem Ch.tk (c : Ch o H H') : Tk H H' := fun _ _ h => c.tup h
theorem Eb.tk (e : Eb a H H') : Tk H H' := fun b xs h => (e.1 b fun q => by rw [q] at h; exact e.2 xs h).trans h
theorem Ch.refl : Ch o H H := fun _ _ h _ => h
theorem Ch.same (s : Same H1 H2) (c : Ch o H H1) : Ch o H H2 := fun x u h n => s _ _ (c x u h n)
theorem Ch.eb (e : Eb a H1 H2) (m : a ∈ o) (c : Ch o H H1) : Ch o H H2 := fun x u h n => by
  have h1 := c x u h n
  by_cases q : x = a
  · subst q
    obtain ⟨xs, rfl⟩ := n m
    exact absurd h1 (e.2 xs)
  · exact e.get q h1
theorem Ch.ebn (e : Eb a H1 H2) (m : H a = none) (c : Ch o H H1) : Ch o H H2 := fun x u h n => e.get (fun q => by rw [q, m] at h; cases h) (c x u h n)
theorem Ch.ch (c2 : Ch o2 H1 H2) (m : ∀ x ∈ o2, x ∈ o ∨ H x = none) (c : Ch o H H1) : Ch o H H2 := fun x u h n => c2 x u (c x u h n) fun z => by
  rcases m x z with q | q
  · exact n q
  · rw [h] at q
    cases q
theorem Ch.mono (c : Ch o H H') (m : ∀ x ∈ o, x ∈ o2) : Ch o2 H H' := fun x u h n => c x u h fun z => n (m x z)
theorem Ch.trans (c : Ch o H H1) (c2 : Ch o H1 H2) : Ch o H H2 := c2.ch (fun x hx => .inl hx) c
theorem Ch.seq {K : Frg} (c : Ch o H H') (n : x ∉ o) (h : SqL K H x xs) : SqL K H' x xs := by
  rcases h with (h | ⟨u, h⟩) | h
  · exact .inl (.inl (c.get n h))
  · exact .inl (.inr ⟨u, c.get n h⟩)
  · exact .inr h
theorem Same.get (s : Same H H') (h : H x = some u) : H' x = some u := s _ _ h
theorem nm_nil : x ∉ ([] : List Addr) := by simp
theorem nm_cons (h : x ≠ a) (t : x ∉ o) : x ∉ a :: o := by simp [h, t]
theorem nm_app (h : x ∉ o) (t : x ∉ o2) : x ∉ o ++ o2 := by simp [h, t]
theorem ms_nil {p : Addr → Prop} : ∀ x ∈ ([] : List Addr), p x := by simp
theorem ms_cons {p : Addr → Prop} (h : p a) (t : ∀ x ∈ o, p x) : ∀ x ∈ a :: o, p x := fun x hx => by
  rcases List.mem_cons.mp hx with e | e
  · rw [e]; exact h
  · exact t x e
theorem ms_app {p : Addr → Prop} (h : ∀ x ∈ o, p x) (t : ∀ x ∈ o2, p x) : ∀ x ∈ o ++ o2, p x := fun x hx => by
  rcases List.mem_append.mp hx with e | e
  · exact h x e
  · exact t x e
theorem ne_il {C dx : Addr} {fs : List (Str × V)} {b : Addr} (h1 : H a = some (.ins C dx fs)) (h2 : H b = some (.lst xs)) : a ≠ b := fun e => by
  rw [e, h2] at h1
  cases h1
theorem ne_id {C dx : Addr} {fs : List (Str × V)} {b : Addr} {kvs : List (List Key × V)} (h1 : H a = some (.ins C dx fs)) (h2 : H b = some (.dT kvs)) : a ≠ b := fun e => by
  rw [e, h2] at h1
  cases h1
theorem ne_ld {b : Addr} {kvs : List (List Key × V)} (h1 : H a = some (.lst xs)) (h2 : H b = some (.dT kvs)) : a ≠ b := fun e => by
  rw [e, h2] at h1
  cases h1
/-- what is new to a later heap was new before, or is one's own -/
theorem Ch.fresh (c : Ch o H H') (h : H' x = none) : x ∈ o ∨ H x = none := by
  by_cases m : x ∈ o
  · exact .inl m
  · cases e : H x with
    | none => exact .inr rfl
    | some u =>
      rw [c.get m e] at h
      cases h
end
section
variable {σ : St} {H : Hp} {n b c : St → Hp → Prop} {r : VK} {Q : VK} {K : Frg} {a C dx : Addr} {fs : List (Str × V)} {f : Str} {v : V}
theorem r_fsetE {R : Hp → Prop} {fs' : List (Str × V)} (h : H a = some (.ins C dx fs)) (cl : Cls K C) (na : NoAttr K C f) (hl : fs.length < 1000) (e : putF f v fs = fs') (q : ∀ H', H' a = some (.ins C dx fs') → Eb a H H' → R H') :
    ∃ a' C dx fs, V.ref a = .ref a' ∧ H a' = some (.ins C dx fs) ∧ Cls K C ∧ NoAttr K C f ∧ fs.length < 1000 ∧ R (upd H a' (.ins C dx (putF f v fs))) := r_fset h cl na hl e (q _ upd_same (Eb.upd h fun xs e => by cases e))
theorem r_appE {p : Addr} {xs : List V} {y : V} (h : H p = some (.lst xs)) (hl : xs.length < sizeLine) (q : ∀ H', H' p = some (.lst (xs ++ [y])) → Eb p H H' → Q .non H') : rAppend (.ref p) [y] H Q := r_app h hl (q _ upd_same (Eb.upd h fun xs e => by cases e))
theorem r_popE {p : Addr} {xs : List V} {y : V} (h : H p = some (.lst (xs ++ [y]))) (q : ∀ H', H' p = some (.lst xs) → Eb p H H' → Q y H') : rPop (.ref p) [] H Q := by
  refine ⟨p, _, y, rfl, rfl, h, ?_, ?_⟩
  · rw [List.length_append]
    show (xs ++ [y])[xs.length + 1 - 1]? = some y
    simp
  · exact q _ (by rw [upd_same, List.dropLast_concat]) (Eb.upd h fun xs e => by cases e)
theorem r_orT {ta tb : TE} (h : ta σ H fun x H1 => ∃ k, TruV K x H1 k ∧ if k = true then Q x H1 else tb σ H1 Q) : tOrT K ta tb σ H Q := h
theorem pe_alt {X : Cx} {e : Expr} {t u : TE} (h1 : PE X e t) (h2 : PE X e u) : PE X e (fun σ H Q => t σ H Q ∨ u σ H Q) := by
  refine ⟨fun pins s σ H Q I h => ?_⟩
  rcases h with h | h
  · exact h1.run pins s σ H Q I h
  · exact h2.run pins s σ H Q I h
end
/-! ### new objects by what is known of the heap behind them -/
section
variable {X : Cx} {es : List Expr} {t : TA} {pos : Pos}
theorem pa_mono (ha : PA X es t) : PA X es (fun σ H R => ∃ R0 : List V → Hp → Prop, t σ H R0 ∧ ∀ xs H1, R0 xs H1 → R xs H1) :=
  ⟨fun pos pins s σ H Q I ⟨R0, h, im⟩ => wpAny_mono (ha.run pos pins s σ H R0 I h) (fun us s' ⟨xs, H', I', r, q⟩ => ⟨xs, H', I', r, im _ _ q⟩) fun _ _ x => x⟩
def tLstE (t : TA) : TE := fun σ H Q => t σ H fun xs H1 => xs.length ≤ sizeLine ∧ ∀ p H2, H1 p = none → H2 p = some (.lst xs) → Same H1 H2 → Q (.ref p) H2
def tTupE (t : TA) : TE := fun σ H Q => t σ H fun xs H1 => xs.length ≤ sizeLine ∧ ∀ p H2, H1 p = none → H2 p = some (.tup xs) → Same H1 H2 → Q (.ref p) H2
def tDnwE : TE := fun _ H Q => ∀ p H2, H p = none → H2 p = some (.dT []) → Same H H2 → Q (.ref p) H2
theorem pe_lstE {p : Pos} (ha : PA X es t) : PE X (.List es p) (tLstE t) := ⟨fun pins s σ H Q I h => (pe_lst (pa_mono ha)).run pins s σ H Q I ⟨_, h, fun xs H1 q => ⟨q.1, fun p np => q.2 p _ np upd_same (same_upd np _)⟩⟩⟩
theorem pe_tupE {k : Nat} {p : Pos} (ha : PA X es t) : PE X (.Tuple es k p) (tTupE t) := ⟨fun pins s σ H Q I h => (pe_tup (pa_mono ha)).run pins s σ H Q I ⟨_, h, fun xs H1 q => ⟨q.1, fun p np => q.2 p _ np upd_same (same_upd np _)⟩⟩⟩
theorem pe_dnwE {pos : Pos} : PE X (.Dict [] [] pos) tDnwE := ⟨fun pins s σ H Q I h => pe_dnewT.run pins s σ H Q I fun p np => h p _ np upd_same (same_upd np _)⟩
def rListE (K : Frg) : List V → Hp → VK → Prop := fun xs H Q => ∃ p ys, xs = [.ref p] ∧ (SqL K H p ys ∨ SqT K H p ys) ∧ ∀ l H2, H l = none → H2 l = some (.lst ys) → Same H H2 → Q (.ref l) H2
def rTupleE (K : Frg) : List V → Hp → VK → Prop := fun xs H Q => ∃ p ys, xs = [.ref p] ∧ ((SqL K H p ys ∧ ∀ l H2, H l = none → H2 l = some (.tup ys) → Same H H2 → Q (.ref l) H2) ∨ (SqT K H p ys ∧ Q (.ref p) H))
theorem call_list_ofE : CallR X (.type "list") (rListE X.K) := fun pins s σ H xs us Q I r ⟨p, ys, e, o, q⟩ => call_list_of pins s σ H xs us Q I r ⟨p, ys, e, o, fun l nl => q l _ nl upd_same (same_upd nl _)⟩
theorem call_tuple_ofE : CallR X (.type "tuple") (rTupleE X.K) := fun pins s σ H xs us Q I r ⟨p, ys, e, o⟩ => call_tuple_of pins s σ H xs us Q I r ⟨p, ys, e, o.imp (fun q => ⟨q.1, fun l nl => q.2 l _ nl upd_same (same_upd nl _)⟩) id⟩
end
section
variable {σ : St} {H : Hp} {Q : VK} {K : Frg} {t : TA}
theorem r_lstE (h : t σ H fun xs H1 => xs.length ≤ sizeLine ∧ ∀ p H2, H1 p = none → H2 p = some (.lst xs) → Same H1 H2 → Q (.ref p) H2) : tLstE t σ H Q := h
theorem r_tupE (h : t σ H fun xs H1 => xs.length ≤ sizeLine ∧ ∀ p H2, H1 p = none → H2 p = some (.tup xs) → Same H1 H2 → Q (.ref p) H2) : tTupE t σ H Q := h
theorem r_dnwE (h : ∀ p H2, H p = none → H2 p = some (.dT []) → Same H H2 → Q (.ref p) H2) : tDnwE σ H Q := h
theorem Same.ne {H : Hp} {p x : Addr} {u : HO} (np : H p = none) (h : H x = some u) : x ≠ p := fun e => by rw [e, np] at h; cases h
/-- list(xs) of a list -/
theorem r_toL {p : Addr} {ys : List V} (hs : SqL K H p ys) (q : ∀ l H2, H l = none → H2 l = some (.lst ys) → Same H H2 → Q (.ref l) H2) : rListE K [.ref p] H Q := ⟨p, ys, rfl, .inl hs, q⟩
theorem r_toLt {p : Addr} {ys : List V} (hs : SqT K H p ys) (q : ∀ l H2, H l = none → H2 l = some (.lst ys) → Same H H2 → Q (.ref l) H2) : rListE K [.ref p] H Q := ⟨p, ys, rfl, .inr hs, q⟩
theorem r_toT {p : Addr} {ys : List V} (hs : SqL K H p ys) (q : ∀ l H2, H l = none → H2 l = some (.tup ys) → Same H H2 → Q (.ref l) H2) : rTupleE K [.ref p] H Q := ⟨p, ys, rfl, .inl ⟨hs, q⟩⟩
end
/-- an expression whose value is known, whatever is wished of it -/
theorem r_joinE {σ : St} {H : Hp} {Q : VK} {t : TE} (v : V) (h1 : ∀ R : VK, R v H → t σ H R) (h : Q v H) : t σ H Q := h1 Q h

/-! ### a try whose body raises nothing -/
section
variable {X : Cx} {body : List Stmt} {h₀ : ExceptHandler} {hs : List ExceptHandler} {t : TS} {pos : Pos}
theorem ps_tryN0 (hn : ∀ e s, ¬ X.xe e s) (hb : PSs X body t) : PS X (.Try body (h₀ :: hs) [] [] pos) t := ps_try_never (u := tNext) hn hb pss_nil
end

/-! ### rows of things, entries -/
theorem map_get {α : Type} {f : α → V} {l : List α} {i : Nat} {x : V} (h : (l.map f)[i]? = some x) : ∃ e, l[i]? = some e ∧ x = f e ∧ l.take (i + 1) = l.take i ++ [e] := by
  rw [List.getElem?_map] at h
  obtain ⟨e, h1, h2⟩ := Option.map_eq_some_iff.mp h
  refine ⟨e, h1, h2.symm, ?_⟩
  rw [List.take_succ, h1]
  rfl
theorem dpa_map {α : Type} {K : Frg} {H : Hp} {f : α → V} {g : α → PyData} : ∀ {l : List α}, (∀ e ∈ l, Dp K H (f e) (g e)) → DpAll K H (l.map f) (l.map g)
  | [], _ => .nil
  | x :: l, h => .cons (h x (List.mem_cons_self ..)) (dpa_map fun e he => h e (List.mem_cons_of_mem _ he))
theorem tpa_map {α : Type} {H : Hp} {f : α → V} {g : α → PyData} : ∀ {l : List α}, (∀ e ∈ l, Tp H (f e) (g e)) → TpAll H (l.map f) (l.map g)
  | [], _ => .nil
  | x :: l, h => .cons (h x (List.mem_cons_self ..)) (tpa_map fun e he => h e (List.mem_cons_of_mem _ he))
theorem vl_ref {H : Hp} {v : V} {t : Vl} (h : Tp H v t.dat) : ∃ u, v = .ref u := by
  cases t <;> (obtain ⟨a, _, e, _⟩ := tp_tup h; exact ⟨a, e⟩)
theorem EntAt.tk {H H' : Hp} {e : Ent} (k : Tk H H') (h : EntAt H e) : EntAt H' e := ⟨k _ _ h.1, k _ _ h.2⟩

/-! ### more rules: x is a truth, x == a text (x anything), t[::-1] of a tuple -/
section
open PyProof.Rows
theorem op_isB {X : Cx} : OpR X (compareOp .Is) (fun x y H Q => ∃ b, y = .bl b ∧ Q (.bl (decide (x = .bl b))) H) := by
  intro pins s σ H x y v u Q I rx ry h
  obtain ⟨b, rfl, q⟩ := h
  cases (show u = Value.bool b from ry)
  by_cases e : x = .bl b
  · subst e
    cases (show v = Value.bool b from rx)
    exact wpAny_is_self rfl ⟨.bl true, H, I, rfl, by simpa using q⟩
  · have n : plainIs v (.bool b) = true ∧ v ≠ .bool b := by
      cases x with
      | bl c =>
        cases (show v = Value.bool c from rx)
        exact ⟨rfl, fun z => e (by rw [Value.bool.inj z])⟩
      | non =>
        cases (show v = Value.none from rx)
        exact ⟨rfl, fun z => Value.noConfusion z⟩
      | int i =>
        obtain ⟨t, rfl⟩ := rx
        exact ⟨rfl, fun z => Value.noConfusion z⟩
      | str i =>
        obtain ⟨t, rfl⟩ := rx
        exact ⟨rfl, fun z => Value.noConfusion z⟩
      | ref a =>
        cases (show v = Value.ref a from rx)
        exact ⟨rfl, fun z => Value.noConfusion z⟩
      | byt i =>
        obtain ⟨t, rfl⟩ := rx
        exact ⟨rfl, fun z => Value.noConfusion z⟩
      | flt i =>
        obtain ⟨t, rfl⟩ := rx
        exact ⟨rfl, fun z => Value.noConfusion z⟩
      | ty i =>
        cases (show v = Value.type i from rx)
        exact ⟨rfl, fun z => Value.noConfusion z⟩
    exact wpAny_is_other n.1 n.2 ⟨.bl false, H, I, rfl, by simpa [e] using q⟩
theorem op_eqS {X : Cx} (hu : X.A.units < cLine) : OpR X (compareOp .Eq) (fun x y H Q => ∃ (z : Str) (d : PyData), y = .str z ∧ Dp X.K H x d ∧ d.canLay0 = true ∧ PyData.strOk z = true ∧ Q (.bl (PyData.eqv d (.str z))) H) := by
  intro pins s σ H x y v u Q I rx ry h
  obtain ⟨z, d, rfl, hd, ld, lz, q⟩ := h
  obtain ⟨as, r1⟩ := Dp.reads I d x v hd rx
  obtain ⟨bs, r2⟩ := Dp.reads I (.str z) (.str z) u (.str z) ry
  refine SeqAt.compareEq_reads r1 r2 ld lz ?_ ⟨.bl _, H, I, rfl, q⟩
  have e : (PyData.str z).depth = 0 := by simp [PyData.depth]
  rw [e, Nat.min_zero]
  exact hu
/-! t[::-1] -/
theorem sliceApplied_rev {prog : Program} {w : World} {A : Around} {E : Value → Shared → Prop} {s : Shared} {sl : Addr} {vs : Value} {n : Nat} {Q : Int × Int × Nat → Shared → Prop} (hs : s.heap.IsSliceOf sl .none .none vs) (ps : IsPart vs (some (-1)))
    (h : Q ((n : Int) - 1, -1, n) s) : wpAny (model prog w) A (Builtin.Slice.sliceApplied (.ref sl) (pure (n : Int))) Q E s := by
  obtain ⟨os, hos, hcs, hds⟩ := id hs
  unfold Builtin.Slice.sliceApplied Builtin.Slice.sliceFields
  refine wpAny_bind (wpAny_bind (wpAny_field hos hds (x := .none) rfl (wpAny_bind (wpAny_field hos hds (x := .none) rfl (wpAny_bind (wpAny_field hos hds (x := vs) rfl (wpAny_pure ?_)))))))
  refine wpAny_bind (HT.slicePart_ ps ?_)
  show wpAny _ _ (if ((-1 : Int) == 0) = true then _ else _) _ _ s
  rw [if_neg (by decide)]
  refine wpAny_bind (PyProof.Rows.slicePart_none (wpAny_bind (PyProof.Rows.slicePart_none (wpAny_bind (wpAny_pure ?_)))))
  show wpAny _ _ (match Builtin.Slice.sliceAdjust none none (-1) (n : Int) with | (lo, hi) => pure (lo, (-1 : Int), Builtin.Slice.slicePlaces lo hi (-1))) _ _ s
  have e1 : Builtin.Slice.sliceAdjust none none (-1) (n : Int) = ((n : Int) - 1, -1) := rfl
  rw [e1]
  show wpAny _ _ (pure ((n : Int) - 1, (-1 : Int), Builtin.Slice.slicePlaces ((n : Int) - 1) (-1) (-1))) _ _ s
  have e2 : Builtin.Slice.slicePlaces ((n : Int) - 1) (-1) (-1) = n := by
    unfold Builtin.Slice.slicePlaces
    rw [if_neg (by decide)]
    by_cases c : (n : Int) - 1 > -1
    · rw [if_pos c]
      have : ((n : Int) - 1 - -1 - 1) / (- -1) = (n : Int) - 1 := by
        rw [show (- -1 : Int) = 1 by decide, Int.ediv_one]
        omega
      omega
    · rw [if_neg c]
      omega
  rw [e2]
  exact wpAny_pure h
theorem pick_rev (xs : Array Value) : ((List.range xs.size).filterMap fun (k : Nat) => xs[(((xs.size : Int) - 1) + (k : Int) * (-1)).toNat]?).toArray = xs.toList.reverse.toArray := by
  congr 1
  have fm : ∀ (f : Nat → Option Value) (l : List Nat), l.filterMap f = (l.map f).filterMap id := fun f l => by rw [List.filterMap_map]; rfl
  have e : (List.range xs.size).map (fun (k : Nat) => xs[(((xs.size : Int) - 1) + (k : Int) * (-1)).toNat]?) = (List.range xs.size).map fun (k : Nat) => xs[xs.size - 1 - k]? := by
    apply List.map_congr_left
    intro k hk
    have := List.mem_range.mp hk
    show xs[_]? = xs[xs.size - 1 - k]?
    congr 1
    omega
  rw [fm, e, ← fm]
  have e2 : (List.range xs.size).filterMap (fun (k : Nat) => xs[xs.size - 1 - k]?) = ((List.range xs.size).map fun k => xs.size - 1 - k).filterMap (fun k => xs[k]?) := by
    rw [List.filterMap_map]
    rfl
  rw [e2, PySem.W.krv_range, List.filterMap_reverse, PySem.W.krv_all]
theorem getItem_tuple_rev {prog : Program} {w : World} {A : Around} {E : Value → Shared → Prop} {s : Shared} {t sl : Addr} {items : Array Value} {vs : Value} {Q : Value → Shared → Prop} (ht : IsTup s.heap t items) (hs : s.heap.IsSliceOf sl .none .none vs) (ps : IsPart vs (some (-1)))
    (h : Q (.ref s.heap.objs.size) { s with heap := s.heap.push { cls := .type "tuple", data := .seq items.toList.reverse.toArray } })
    (hsz : items.size ≤ sizeLine) : wpAny (model prog w) A (getItem (.ref t) (.ref sl)) Q E s := by
  have hrev : sizeOk (.seq items.toList.reverse.toArray) := by
    show items.toList.reverse.toArray.size ≤ sizeLine
    rw [List.size_toArray, List.length_reverse, Array.length_toList]
    exact hsz
  obtain ⟨os, hos, hcs, hds⟩ := id hs
  have hTs : s.TypeIs (.ref sl) "slice" := ⟨os, hos, hcs⟩
  unfold getItem
  try with_reducible refine wpAny_holding ?_
  first | refine wpAny_bind (wpAny_pure ?_) | skip
  refine wpAny_bind (wpAny_sequenceKey ht.typeIs (by decide) ?_)
  refine wpAny_bind (wpAny_callSpecial?_slot (name := Str.ofString "__getitem__") ht.typeIs PyProof.Rows.slot_tuple_getitem
    (wpAny_call_entry PyProof.Rows.slot_tuple_getitem ht.typeIs entry_tuple_getitem ?_ (args_tuple_getitem _ _)))
  show wpAny _ _ (Builtin.Tuple.tupleItemsOf (.ref t) >>= _) _ _ s
  refine wpAny_bind (tupleItemsOf_ ht ?_)
  refine wpAny_bind (wpAny_typeOf hTs ?_)
  rw [if_pos (by decide)]
  refine wpAny_bind (sliceApplied_rev hs ps ?_)
  have hno : ¬ (((((items.size : Nat) : Int) - 1) == 0 && (-1 : Int) == 1 && items.size == items.size) = true) := by
    intro q
    rw [Bool.and_eq_true, Bool.and_eq_true] at q
    exact absurd q.1.2 (by decide)
  show wpAny _ _ (if ((((items.size : Nat) : Int) - 1) == 0 && (-1 : Int) == 1 && items.size == items.size) = true then _ else _) _ _ s
  rw [if_neg hno, pick_rev]
  first
    | exact wpAny_bind (m := Builtin.Tuple.tupleExact _) (wpAny_newObj_type (wpAny_pure ⟨_, rfl, wpAny_pure h⟩) hrev)
    | exact wpAny_bind (m := Builtin.Tuple.tupleExact _) (wpAny_newObj_type (wpAny_bind (wpAny_pure (wpAny_pure ⟨_, rfl, wpAny_pure h⟩))) hrev)
    | exact wpAny_bind (wpAny_bind (m := Builtin.Tuple.tupleExact _) (wpAny_newObj_type (wpAny_pure (wpAny_pure ⟨_, rfl, wpAny_pure h⟩)) hrev))
    | exact wpAny_bind (wpAny_bind (m := Builtin.Tuple.tupleExact _) (wpAny_newObj_type (wpAny_pure ⟨_, rfl, wpAny_pure h⟩) hrev))
def tRevT (K : Frg) (te : TE) : TE := fun σ H Q => te σ H fun x H1 => ∃ a xs, x = .ref a ∧ SqT K H1 a xs ∧ ∀ p, H1 p = none → Q (.ref p) (upd H1 p (.tup xs.reverse))
theorem pe_revT {X : Cx} {e : Expr} {te : TE} {k : Nat} {p1 p2 p3 pos : Pos} (he : PE X e te) : PE X (.Subscript e (.Slice none none (some (.UnaryOp .USub (.Constant (.int 1) k p1) p2)) p3) pos) (tRevT X.K te) := by
  refine ⟨fun pins s σ H Q I h => ?_⟩
  refine Subscript_ (thn (he.run pins s σ H _ I h) fun v s1 ⟨x, H1, I1, r1, q1⟩ => ?_)
  obtain ⟨a, xs, ex, hx, q⟩ := q1
  subst ex
  cases r1
  have hst : PO X (some (.UnaryOp .USub (.Constant (.int 1) k p1) p2)) (tPart (tUn (rU fun i => .int (-i)) (tC (.int 1)))) := po_some (pe_un un_neg pe_int)
  have hno : ∀ {s2 : Shared} {H2 : Hp} {R : Value → Shared → Prop} {E : Value → Shared → Prop}, R .none s2 → wpAny (model X.prog X.w) X.A (evalPart none X.env) R E s2 := fun q => wpAny_pure q
  refine wpAny_Slice (hno (H2 := H1) ?_)
  refine hno (H2 := H1) ?_
  refine thn (hst.run pins s1 σ H1 (fun o H4 => o = some (-1) ∧ H4 = H1) I1 ⟨1, rfl, -1, rfl, rfl, rfl⟩) fun vs s4 ⟨o, H4, I4, ps, eo, e4⟩ => ?_
  subst eo e4
  have I5 : Inv X pins σ H4 { s4 with heap := s4.heap.push { cls := .type "slice", data := .fields #[.none, .none, vs] } } := I4.kept (t' := s4.toks) fun b ob q => Heap.get?_push_of_some _ q
  obtain ⟨its, r, ht, hz⟩ := I5.tuple hx
  have hlen := r.length
  show wpAny (model X.prog X.w) X.A (subscriptTail e (.Slice none none (some (.UnaryOp .USub (.Constant (.int 1) k p1) p2)) p3) (.ref a) (.ref s4.heap.objs.size)) (EP X pins σ Q) X.xe { s4 with heap := s4.heap.push { cls := .type "slice", data := .fields #[.none, .none, vs] } }
  refine tail_any (ops := [.ref a, .ref s4.heap.objs.size]) ht.typeIs PyProof.Rows.slot_tuple_getitem.lookup ?_ (by with_unfolding_all rfl)
  refine getItem_tuple_rev ht (Heap.IsSliceOf.new _ .none .none vs) ps ?_ (by rw [List.size_toArray]; omega)
  refine ⟨.ref _, _, I5.laid (t' := s4.toks) (o := .tup xs.reverse) (fun b ob q => Heap.get?_push_of_some _ q) (Nat.le_refl _) ?_, rfl, q _ (I5.hok.fresh (Nat.le_refl _))⟩
  exact ⟨by rw [List.length_reverse]; exact hz, _, r.reverse, IsTup.new _ _⟩
end
section
variable {σ : St} {H : Hp} {Q : VK} {K : Frg}
theorem r_revT {te : TE} (h : te σ H fun x H1 => ∃ a xs, x = .ref a ∧ SqT K H1 a xs ∧ ∀ p, H1 p = none → Q (.ref p) (upd H1 p (.tup xs.reverse))) : tRevT K te σ H Q := h
end

/-! ### texts and octets, pure -/
def asc (x : List Nat) : List Int := x.map fun (c : Nat) => Int.ofNat c
def enc1 (c : Int) : List Int :=
  if c < 128 then [c] else if c < 2048 then [192 + c / 64, 128 + c % 64] else if c < 65536 then [224 + c / 4096, 128 + c / 64 % 64, 128 + c % 64]
  else [240 + c / 262144, 128 + c / 4096 % 64, 128 + c / 64 % 64, 128 + c % 64]
def encs (cs : List Int) : List Int := cs.flatMap enc1
def mark8 (m : Int) : Int := if m = 1 then 192 else if m = 2 then 224 else 240
/-- a list or tuple of numbers at a -/
def RowAt (H : Hp) (a : Addr) (zs : List Int) : Prop := H a = some (.lst (zs.map V.int)) ∨ H a = some (.tup (zs.map V.int))
def Point (c : Int) : Prop := 0 ≤ c ∧ c ≤ 1114111 ∧ (c < 55296 ∨ 57344 ≤ c)
def mm8 (c : Int) : Int := if c < 2048 then 1 else if c < 65536 then 2 else 3
theorem mm8_is (c : Int) : mm8 c = 1 ∨ mm8 c = 2 ∨ mm8 c = 3 := by
  unfold mm8
  split
  · exact .inl rfl
  · split
    · exact .inr (.inl rfl)
    · exact .inr (.inr rfl)
theorem enc_low {c : Int} (h : c < 128) : enc1 c = [c] := if_pos h
theorem enc_long {c : Int} (hc : 128 ≤ c) : (c < 2048 ∧ mm8 c = 1 ∧ enc1 c = [192 + c / 64, 128 + c % 64]) ∨ (2048 ≤ c ∧ c < 65536 ∧ mm8 c = 2 ∧ enc1 c = [224 + c / 4096, 128 + c / 64 % 64, 128 + c % 64]) ∨
    (65536 ≤ c ∧ mm8 c = 3 ∧ enc1 c = [240 + c / 262144, 128 + c / 4096 % 64, 128 + c / 64 % 64, 128 + c % 64]) := by
  have h0 : ¬ c < 128 := by omega
  by_cases c1 : c < 2048
  · refine .inl ⟨c1, if_pos c1, ?_⟩
    unfold enc1
    rw [if_neg h0, if_pos c1]
  · by_cases c2 : c < 65536
    · refine .inr (.inl ⟨by omega, c2, ?_, ?_⟩)
      · unfold mm8
        rw [if_neg c1, if_pos c2]
      · unfold enc1
        rw [if_neg h0, if_neg c1, if_pos c2]
    · refine .inr (.inr ⟨by omega, ?_, ?_⟩)
      · unfold mm8
        rw [if_neg c1, if_neg c2]
      · unfold enc1
        rw [if_neg h0, if_neg c1, if_neg c2]
theorem long_zero {c : Int} (hc : 128 ≤ c) : [mark8 (mm8 c) + c / 2 ^ (6 * mm8 c).toNat] = (enc1 c).take 1 := by
  rcases enc_long hc with ⟨_, e1, e2⟩ | ⟨_, _, e1, e2⟩ | ⟨_, e1, e2⟩ <;> rw [e1, e2] <;> rfl
theorem long_step {c : Int} {i : Nat} (hc : 128 ≤ c) (hi : i < (mm8 c).toNat) : (enc1 c).take (i + 1) ++ [128 + c / 2 ^ (6 * mm8 c - 6 + (i : Int) * (-6)).toNat % 64] = (enc1 c).take (i + 2) := by
  rcases enc_long hc with ⟨_, e1, e2⟩ | ⟨_, _, e1, e2⟩ | ⟨_, e1, e2⟩
  · rw [e1] at hi ⊢
    rw [e2]
    have e : i = 0 := by
      have : i < 1 := hi
      omega
    subst e
    show [192 + c / 64, 128 + c / 1 % 64] = [192 + c / 64, 128 + c % 64]
    rw [Int.ediv_one]
  · rw [e1] at hi ⊢
    rw [e2]
    have e : i = 0 ∨ i = 1 := by
      have : i < 2 := hi
      omega
    rcases e with e | e
    · subst e
      rfl
    · subst e
      show [224 + c / 4096, 128 + c / 64 % 64, 128 + c / 1 % 64] = [224 + c / 4096, 128 + c / 64 % 64, 128 + c % 64]
      rw [Int.ediv_one]
  · rw [e1] at hi ⊢
    rw [e2]
    have e : i = 0 ∨ i = 1 ∨ i = 2 := by
      have : i < 3 := hi
      omega
    rcases e with e | e | e
    · subst e
      rfl
    · subst e
      rfl
    · subst e
      show [240 + c / 262144, 128 + c / 4096 % 64, 128 + c / 64 % 64, 128 + c / 1 % 64] = [240 + c / 262144, 128 + c / 4096 % 64, 128 + c / 64 % 64, 128 + c % 64]
      rw [Int.ediv_one]
theorem long_all {c : Int} (hc : 128 ≤ c) : (enc1 c).take ((mm8 c).toNat + 1) = enc1 c := by
  rcases enc_long hc with ⟨_, e1, e2⟩ | ⟨_, _, e1, e2⟩ | ⟨_, e1, e2⟩ <;> rw [e1, e2] <;> rfl
theorem mark8_at (m : Int) (h : m = 1 ∨ m = 2 ∨ m = 3) : atI ([0, 192, 224, 240].map V.int) m = some (.int (mark8 m)) := by
  rcases h with e | e | e <;> rw [e] <;> rfl
theorem len_enc1 (c : Int) : 1 ≤ (enc1 c).length ∧ (enc1 c).length ≤ 4 := by
  by_cases h : c < 128
  · rw [enc_low h]
    simp
  · rcases enc_long (by omega : 128 ≤ c) with ⟨_, _, e2⟩ | ⟨_, _, _, e2⟩ | ⟨_, _, e2⟩ <;> rw [e2] <;> simp
theorem len_encs : ∀ cs : List Int, (encs cs).length ≤ 4 * cs.length
  | [] => Nat.le_refl _
  | c :: cs => by
    have h := len_encs cs
    have g := (len_enc1 c).2
    show (enc1 c ++ encs cs).length ≤ _
    rw [List.length_append, List.length_cons]
    omega
theorem encs_snoc (cs : List Int) (c : Int) : encs (cs ++ [c]) = encs cs ++ enc1 c := by
  unfold encs
  rw [List.flatMap_append]
  simp
theorem row_same {H H' : Hp} {a : Addr} {zs : List Int} (h : RowAt H a zs) (s : Same H H') : RowAt H' a zs := h.elim (fun h => .inl (s _ _ h)) fun h => .inr (s _ _ h)
def strO (os : List Int) : List Int := asc (dg os.length) ++ [58] ++ os
def numO (m e : Int) : List Int := [105] ++ asc ((if m < 0 then [45] else []) ++ dg m.natAbs ++ List.replicate e.toNat 48) ++ [101]
def Nf (m e : Int) : Prop := (m = 0 ∧ e = 0) ∨ (m % 10 ≠ 0 ∧ 0 ≤ e ∧ e ≤ 800)
/-- values that bencode has -/
def Kp (k : List Int) : Prop := k.length ≤ 200 ∧ ∀ c ∈ k, Point c
inductive Lb : Str → List PyData → Prop
  | number (m e : Int) (h : Nf m e) (hm : m.natAbs < 10 ^ 60) : Lb "number" [.int m, .int e]
  | bytes (os : List Int) (h : os.length ≤ 300) : Lb "bytes" [kd os]
theorem kd_inj {a b : List Int} (h : kd a = kd b) : a = b := by
  unfold kd at h
  injection h with h
  have e := congrArg (List.map fun d : PyData => match d with | .int i => i | _ => 0) h
  rw [List.map_map, List.map_map] at e
  have f : ∀ l : List Int, List.map ((fun d : PyData => match d with | .int i => i | _ => 0) ∘ PyData.int) l = l := fun l => by
    rw [show ((fun d : PyData => match d with | .int i => i | _ => 0) ∘ PyData.int) = id from rfl, List.map_id]
  rw [f, f] at e
  exact e
theorem lb_bytes {os : List Int} (hb : Lb "bytes" [kd os]) : os.length ≤ 300 := by
  generalize hk : ([kd os] : List PyData) = kk at hb
  generalize hs : (("bytes" : Str)) = ss at hb
  cases hb with
  | number m e h hm => exact absurd hs (by decide +kernel)
  | bytes os2 h =>
    injection hk with hk
    rw [kd_inj hk]
    exact h

/-! ### a sleeping generator stays as it is while others run: its twin in the table can't be woken -/
/-- what can't go on -/
def stuckK : Resume → Sem PySem.Fin := fun _ => .unsupported ""
def twinG : GenState → GenState
  | .suspended _ l c p fs cl => .suspended stuckK l c p fs cl
  | y => y
theorem twinG_seen (a : GenState) : (twinG a).seen = a.seen := by cases a <;> rfl
theorem twinG_bare (a : GenState) : (twinG a).bare = a.bare := by cases a <;> rfl
/-- it sleeps without another generator's frame below -/
def SwOk : GenState → Prop
  | .suspended _ _ _ _ fs _ => splitAtGen fs = none
  | _ => True
def StuckAt (T : Array GenState) (i : Nat) : Prop := ∃ l c p fs cl, T[i]? = some (.suspended stuckK l c p fs cl)
/-- the table G and its twin T: at the places of S stand twins -/
structure TwT (S : Nat → Prop) (G T : Array GenState) : Prop where
  size : T.size = G.size
  low : ∀ i, S i → i < G.size
  out : ∀ i a, ¬ S i → G[i]? = some a → T[i]? = some a ∧ SwOk a
  ins : ∀ i a, S i → G[i]? = some a → T[i]? = some (twinG a) ∧ StuckAt T i
theorem no_stuck0 {M : Model} {Γ : PySem.Ctx} {p : Pos} {x : String} {s s' : Shared} {e : End} (h : Runs M Γ p (.unsupported x) [] s e s') : False := by cases h
theorem no_stuck {M : Model} {Γ : PySem.Ctx} {p : Pos} {x : String} {fs : List Frame} {s s' : Shared} {e : End} (h : Runs M Γ p (.unsupported x) fs s e s') : False := by
  cases h with
  | segRet a _ => exact no_stuck0 a
  | segGen a _ => exact no_stuck0 a
  | segSuspOut _ a => exact no_stuck0 a
  | segSuspGen _ a _ _ => exact no_stuck0 a
theorem split_app : ∀ {a b : List Frame}, splitAtGen a = none → splitAtGen b = none → splitAtGen (a ++ b) = none
  | [], _, _, h => h
  | .gen .. :: _, _, h, _ => by cases h
  | .ret k h' g l c p kp :: r, b, h, hb => by
    have hr : splitAtGen r = none := by
      show splitAtGen r = none
      have h2 : (splitAtGen r).map (fun x => (Frame.ret k h' g l c p kp :: x.1, x.2.1, x.2.2)) = none := h
      cases q : splitAtGen r with
      | none => rfl
      | some v => rw [q] at h2; cases h2
    show (splitAtGen (r ++ b)).map (fun x => (Frame.ret k h' g l c p kp :: x.1, x.2.1, x.2.2)) = none
    rw [split_app hr hb]
    rfl
theorem split_tail {F : Frame} {r : List Frame} (h : splitAtGen (F :: r) = none) : splitAtGen r = none := by
  cases F with
  | gen => cases h
  | ret k h' g l c p kp =>
    have h2 : (splitAtGen r).map (fun x => (Frame.ret k h' g l c p kp :: x.1, x.2.1, x.2.2)) = none := h
    cases q : splitAtGen r with
    | none => rfl
    | some v => rw [q] at h2; cases h2
section
variable {S : Nat → Prop} {G T : Array GenState}
theorem TwT.push (h : TwT S G T) (c : Code) : TwT S (G.push (.fresh c)) (T.push (.fresh c)) where
  size := by simp [h.size]
  low := fun i q => by
    have := h.low i q
    simp
    omega
  out := fun i a n e => by
    rw [Array.getElem?_push] at e ⊢
    by_cases hi : i = G.size
    · rw [if_pos hi] at e
      rw [if_pos (by rw [h.size]; exact hi)]
      cases e
      exact ⟨rfl, trivial⟩
    · rw [if_neg hi] at e
      rw [if_neg (by rw [h.size]; exact hi)]
      exact h.out i a n e
  ins := fun i a y e => by
    have hi : i ≠ G.size := Nat.ne_of_lt (h.low i y)
    rw [Array.getElem?_push, if_neg hi] at e
    obtain ⟨q, l, c', p, fs, cl, r⟩ := h.ins i a y e
    refine ⟨?_, l, c', p, fs, cl, ?_⟩
    · rw [Array.getElem?_push, if_neg (by rw [h.size]; exact hi)]
      exact q
    · rw [Array.getElem?_push, if_neg (by rw [h.size]; exact hi)]
      exact r
theorem TwT.has (h : TwT S G T) {i : Nat} {b : GenState} (e : T[i]? = some b) : ∃ a, G[i]? = some a := by
  have hi : i < T.size := (Array.getElem?_eq_some_iff.mp e).1
  exact ⟨G[i]'(by rw [← h.size]; exact hi), Array.getElem?_eq_getElem _⟩
/-- what stands at a place may be another thing's twin only there -/
theorem TwT.same (h : TwT S G T) {i : Nat} {b : GenState} (e : T[i]? = some b) (n : ¬ S i) : G[i]? = some b ∧ SwOk b := by
  obtain ⟨a, ha⟩ := h.has e
  obtain ⟨q, o⟩ := h.out i a n ha
  rw [e] at q
  cases q
  exact ⟨ha, o⟩
theorem TwT.stuck (h : TwT S G T) {i : Nat} {b : GenState} (e : T[i]? = some b) (n : S i) : ∃ l c p fs cl, b = .suspended stuckK l c p fs cl := by
  obtain ⟨a, ha⟩ := h.has e
  obtain ⟨_, l, c, p, fs, cl, r⟩ := h.ins i a n ha
  rw [e] at r
  exact ⟨l, c, p, fs, cl, Option.some.inj r⟩
theorem TwT.set (h : TwT S G T) {j : Nat} {y : GenState} (n : ¬ S j) (o : SwOk y) : TwT S (G.setIfInBounds j y) (T.setIfInBounds j y) where
  size := by simp [h.size]
  low := fun i q => by
    have := h.low i q
    simpa using this
  out := fun i a ni e => by
    by_cases hi : i = j
    · subst hi
      rw [Array.getElem?_setIfInBounds_self] at e ⊢
      rw [h.size]
      split at e
      · rename_i hlt
        cases e
        exact ⟨by rw [if_pos hlt], o⟩
      · cases e
    · rw [Array.getElem?_setIfInBounds_ne (Ne.symm hi)] at e ⊢
      exact h.out i a ni e
  ins := fun i a y' e => by
    have hi : i ≠ j := fun z => n (z ▸ y')
    rw [Array.getElem?_setIfInBounds_ne (Ne.symm hi)] at e
    obtain ⟨q, l, c, p, fs, cl, r⟩ := h.ins i a y' e
    exact ⟨by rw [Array.getElem?_setIfInBounds_ne (Ne.symm hi)]; exact q, l, c, p, fs, cl, by rw [Array.getElem?_setIfInBounds_ne (Ne.symm hi)]; exact r⟩
end
/-- what sleeps at the places of S stays -/
def KeptG (S : Nat → Prop) (G G' : Array GenState) : Prop := ∀ i, S i → G'[i]? = G[i]?
theorem KeptG.trans {S : Nat → Prop} {A B C : Array GenState} (a : KeptG S A B) (b : KeptG S B C) : KeptG S A C := fun i y => (b i y).trans (a i y)
theorem KeptG.push {S : Nat → Prop} {G : Array GenState} {c : Code} (h : ∀ i, S i → i < G.size) : KeptG S G (G.push (.fresh c)) := fun i y => by
  rw [Array.getElem?_push, if_neg (Nat.ne_of_lt (h i y))]
theorem KeptG.set {S : Nat → Prop} {G : Array GenState} {j : Nat} {y : GenState} (n : ¬ S j) : KeptG S G (G.setIfInBounds j y) := fun i h => by
  rw [Array.getElem?_setIfInBounds_ne fun z => n (by rw [z]; exact h)]
def withG (s : Shared) (G : Array GenState) : Shared := { s with gens := G }
/-- the same run over the table itself -/
theorem runs_swap {S : Nat → Prop} {M : Model} {Γ : PySem.Ctx} {p : Pos} {t : Sem PySem.Fin} {fs : List Frame} {s s' : Shared} {e : End} (h : Runs M Γ p t fs s e s') :
    splitAtGen fs = none → ∀ G, TwT S G s.gens → ∃ G', Runs M Γ p t fs (withG s G) e (withG s' G') ∧ TwT S G' s'.gens ∧ KeptG S G G' ∧ SwOk e.genState := by
  induction h with
  | done => exact fun _ G q => ⟨G, .done, q, fun _ _ => rfl, trivial⟩
  | raise => exact fun _ G q => ⟨G, .raise, q, fun _ _ => rfl, trivial⟩
  | again hq _ ih => exact fun f G q => let ⟨G', r, z⟩ := ih f G q; ⟨G', .again hq r, z⟩
  | rule _ ih => exact fun f G q => let ⟨G', r, z⟩ := ih f G q; ⟨G', .rule r, z⟩
  | «at» _ ih => exact fun f G q => let ⟨G', r, z⟩ := ih f G q; ⟨G', .at r, z⟩
  | load ho _ ih => exact fun f G q => let ⟨G', r, z⟩ := ih f G q; ⟨G', .load (s := withG _ G) ho r, z⟩
  | update ho _ ih => exact fun f G q => let ⟨G', r, z⟩ := ih f G q; ⟨G', .update (s := withG _ G) ho r, z⟩
  | loadIfAlive _ ih => exact fun f G q => let ⟨G', r, z⟩ := ih f G q; ⟨G', .loadIfAlive (s := withG _ G) r, z⟩
  | point _ ih => exact fun f G q => let ⟨G', r, z⟩ := ih f G q; ⟨G', .point r, z⟩
  | alloc _ ih => exact fun f G q => let ⟨G', r, z⟩ := ih f G q; ⟨G', .alloc (s := withG _ G) r, z⟩
  | fresh _ ih => exact fun f G q => let ⟨G', r, z⟩ := ih f G q; ⟨G', .fresh (s := withG _ G) r, z⟩
  | ask _ ih => exact fun f G q => let ⟨G', r, z⟩ := ih f G q; ⟨G', .ask r, z⟩
  | choose hn _ ih => exact fun f G q => let ⟨G', r, z⟩ := ih f G q; ⟨G', .choose (s := withG _ G) hn r, z⟩
  | os _ ih => exact fun f G q => let ⟨G', r, z⟩ := ih f G q; ⟨G', .os (s := withG _ G) r, z⟩
  | handled _ ih => exact fun f G q => let ⟨G', r, z⟩ := ih f G q; ⟨G', .handled r, z⟩
  | genState hg _ ih =>
    rename_i gg _ _ _ _ _ _ _ _
    intro f G q
    obtain ⟨G', r, z⟩ := ih f G q
    obtain ⟨a, ha⟩ := q.has hg
    by_cases hs : S gg
    · obtain ⟨e1, _⟩ := q.ins _ a hs ha
      rw [hg] at e1
      cases e1
      rw [twinG_seen] at r
      exact ⟨G', .genState (s := withG _ G) ha r, z⟩
    · obtain ⟨e1, _⟩ := q.out _ a hs ha
      rw [hg] at e1
      cases e1
      exact ⟨G', .genState (s := withG _ G) ha r, z⟩
  | stack _ ih => exact fun f G q => let ⟨G', r, z⟩ := ih f G q; ⟨G', .stack r, z⟩
  | thread _ ih => exact fun f G q => let ⟨G', r, z⟩ := ih f G q; ⟨G', .thread r, z⟩
  | newGen _ ih =>
    intro f G q
    obtain ⟨G', r, z1, z2, z3⟩ := ih f _ (q.push _)
    rw [q.size] at r
    exact ⟨G', .newGen (s := withG _ G) r, z1, (KeptG.push q.low).trans z2, z3⟩
  | call _ _ ih1 ih2 =>
    intro f G q
    obtain ⟨G1, r1, q1, k1, _⟩ := ih1 rfl G q
    obtain ⟨G2, r2, q2, k2, o2⟩ := ih2 rfl G1 q1
    exact ⟨G2, .call r1 r2, q2, k1.trans k2, o2⟩
  | callSusp _ ih =>
    intro f G q
    obtain ⟨G1, r1, q1, k1, o1⟩ := ih rfl G q
    exact ⟨G1, .callSusp r1, q1, k1, split_app o1 rfl⟩
  | yield => exact fun _ G q => ⟨G, .yield, q, fun _ _ => rfl, rfl⟩
  | resumeFresh hg _ hq _ ih1 ih2 =>
    intro f G q
    have ns : ¬ S _ := fun y => by
      obtain ⟨_, _, _, _, _, z⟩ := q.stuck hg y
      cases z
    obtain ⟨hG, _⟩ := q.same hg ns
    obtain ⟨G1, r1, q1, k1, o1⟩ := ih1 rfl (G.setIfInBounds _ .running) (q.set ns trivial)
    obtain ⟨G2, r2, q2, k2, o2⟩ := ih2 rfl (G1.setIfInBounds _ _) (q1.set ns o1)
    exact ⟨G2, .resumeFresh (s := withG _ G) hG r1 hq r2, q2, ((KeptG.set ns).trans k1).trans ((KeptG.set ns).trans k2), o2⟩
  | resumeSuspended hg hr hq _ ih1 ih2 =>
    intro f G q
    have ns : ¬ S _ := fun y => by
      obtain ⟨_, _, _, _, _, z⟩ := q.stuck hg y
      cases z
      exact no_stuck hr
    obtain ⟨hG, hf⟩ := q.same hg ns
    obtain ⟨G1, r1, q1, k1, o1⟩ := ih1 hf (G.setIfInBounds _ .running) (q.set ns trivial)
    obtain ⟨G2, r2, q2, k2, o2⟩ := ih2 rfl (G1.setIfInBounds _ _) (q1.set ns o1)
    exact ⟨G2, .resumeSuspended (s := withG _ G) hG r1 hq r2, q2, ((KeptG.set ns).trans k1).trans ((KeptG.set ns).trans k2), o2⟩
  | resumeJustStarted hg hv _ ih =>
    intro f G q
    have ns : ¬ S _ := fun y => by
      obtain ⟨_, _, _, _, _, z⟩ := q.stuck hg y
      cases z
    obtain ⟨hG, _⟩ := q.same hg ns
    obtain ⟨G1, r1, z⟩ := ih f G q
    exact ⟨G1, .resumeJustStarted (s := withG _ G) hG hv r1, z⟩
  | resumeThrowFresh hg _ ih =>
    intro f G q
    have ns : ¬ S _ := fun y => by
      obtain ⟨_, _, _, _, _, z⟩ := q.stuck hg y
      cases z
    obtain ⟨hG, _⟩ := q.same hg ns
    obtain ⟨G1, r1, q1, k1, o1⟩ := ih f (G.setIfInBounds _ .finished) (q.set ns trivial)
    exact ⟨G1, .resumeThrowFresh (s := withG _ G) hG r1, q1, (KeptG.set ns).trans k1, o1⟩
  | resumeRunning hg _ ih =>
    intro f G q
    have ns : ¬ S _ := fun y => by
      obtain ⟨_, _, _, _, _, z⟩ := q.stuck hg y
      cases z
    obtain ⟨hG, _⟩ := q.same hg ns
    obtain ⟨G1, r1, z⟩ := ih f G q
    exact ⟨G1, .resumeRunning (s := withG _ G) hG r1, z⟩
  | resumeFinished hg _ ih =>
    intro f G q
    have ns : ¬ S _ := fun y => by
      obtain ⟨_, _, _, _, _, z⟩ := q.stuck hg y
      cases z
    obtain ⟨hG, _⟩ := q.same hg ns
    obtain ⟨G1, r1, z⟩ := ih f G q
    exact ⟨G1, .resumeFinished (s := withG _ G) hG r1, z⟩
  | segRet _ _ ih1 ih2 =>
    intro f G q
    obtain ⟨G1, r1, q1, k1, _⟩ := ih1 rfl G q
    obtain ⟨G2, r2, q2, k2, o2⟩ := ih2 (split_tail f) G1 q1
    exact ⟨G2, .segRet r1 r2, q2, k1.trans k2, o2⟩
  | segGen => intro f; cases f
  | segSuspOut hf _ ih =>
    intro f G q
    obtain ⟨G1, r1, q1, k1, o1⟩ := ih rfl G q
    exact ⟨G1, .segSuspOut hf r1, q1, k1, split_app o1 hf⟩
  | segSuspGen hf => intro f; rw [hf] at f; cases f
/-- .. behind a code -/
theorem wakes_swap {S : Nat → Prop} {M : Model} {Γ : PySem.Ctx} {p : Pos} {g : Nat} {r : Resume} {s s' : Shared} {res : GenResult} {G : Array GenState} (h : Wakes M Γ p g r s res s') (q : TwT S G s.gens) :
    ∃ G', Wakes M Γ p g r (withG s G) res (withG s' G') ∧ TwT S G' s'.gens ∧ KeptG S G G' := by
  unfold Wakes at h
  have same : ∀ {b : GenState}, s.gens[g]? = some b → (∀ l c p fs cl, b ≠ .suspended stuckK l c p fs cl) → ¬ S g := fun e n y => by
    obtain ⟨l, c, p, fs, cl, z⟩ := q.stuck e y
    exact n l c p fs cl z
  split at h
  · exact h.elim
  · rename_i c hg
    have ns := same hg fun _ _ _ _ _ z => nomatch z
    obtain ⟨hG, _⟩ := q.same hg ns
    unfold Wakes
    rw [show (withG s G).gens[g]? = some (.fresh c) from hG]
    dsimp only
    split at h
    · obtain ⟨e1, s1, hr, hq, rfl, rfl⟩ := h
      obtain ⟨G1, r1, q1, k1, o1⟩ := runs_swap hr rfl (G.setIfInBounds g .running) (q.set ns trivial)
      exact ⟨G1.setIfInBounds g e1.genState, ⟨e1, withG s1 G1, r1, hq, rfl, rfl⟩, q1.set ns o1, ((KeptG.set ns).trans k1).trans (KeptG.set ns)⟩
    · obtain ⟨h1, rfl⟩ := h
      exact ⟨G, ⟨h1, rfl⟩, q, fun _ _ => rfl⟩
    · obtain ⟨h1, rfl⟩ := h
      exact ⟨G.setIfInBounds g .finished, ⟨h1, rfl⟩, q.set ns trivial, KeptG.set ns⟩
  · rename_i k0 l0 c0 p0 fs0 cl hg
    obtain ⟨e1, s1, hr, hq, rfl, rfl⟩ := h
    have ns : ¬ S g := fun y => by
      obtain ⟨_, _, _, _, _, z⟩ := q.stuck hg y
      cases z
      exact no_stuck hr
    obtain ⟨hG, hf⟩ := q.same hg ns
    unfold Wakes
    rw [show (withG s G).gens[g]? = _ from hG]
    obtain ⟨G1, r1, q1, k1, o1⟩ := runs_swap hr hf (G.setIfInBounds g .running) (q.set ns trivial)
    exact ⟨G1.setIfInBounds g e1.genState, ⟨e1, withG s1 G1, r1, hq, rfl, rfl⟩, q1.set ns o1, ((KeptG.set ns).trans k1).trans (KeptG.set ns)⟩
  · rename_i hg
    have ns := same hg fun _ _ _ _ _ z => nomatch z
    obtain ⟨hG, _⟩ := q.same hg ns
    obtain ⟨h1, rfl⟩ := h
    refine ⟨G, ?_, q, fun _ _ => rfl⟩
    unfold Wakes
    rw [show (withG s' G).gens[g]? = _ from hG]
    exact ⟨h1, rfl⟩
  · rename_i hg
    have ns := same hg fun _ _ _ _ _ z => nomatch z
    obtain ⟨hG, _⟩ := q.same hg ns
    obtain ⟨h1, rfl⟩ := h
    refine ⟨G, ?_, q, fun _ _ => rfl⟩
    unfold Wakes
    rw [show (withG s' G).gens[g]? = _ from hG]
    exact ⟨h1, rfl⟩
/-- what is told of the twin's run, over the table itself -/
def Sw (S : Nat → Prop) (G : Array GenState) {α : Type} (Q : α → Shared → Prop) (a : α) (s' : Shared) : Prop := ∃ sT G', s' = withG sT G' ∧ TwT S G' sT.gens ∧ KeptG S G G' ∧ Q a sT
theorem Sw.trans {S : Nat → Prop} {G G1 : Array GenState} {α : Type} {Q : α → Shared → Prop} {a : α} {s' : Shared} (k : KeptG S G G1) (h : Sw S G1 Q a s') : Sw S G Q a s' := by
  obtain ⟨sT, G', e, q, k', z⟩ := h
  exact ⟨sT, G', e, q, k.trans k', z⟩
theorem wp_swap {α : Type} {S : Nat → Prop} (M : Model) (Γ : PySem.Ctx) (t : Sem α) : ∀ (Q : α → Shared → Prop) (E : Value → Shared → Prop) (p : Pos) (s : Shared) (G : Array GenState), TwT S G s.gens →
    Sem.wp M Γ t (fun a _ s' => Q a s') (fun e _ s' => E e s') p s → Sem.wp M Γ t (fun a _ s' => Sw S G Q a s') (fun e _ s' => Sw S G E e s') p (withG s G) := by
  have upg : ∀ {β : Type} {t : Sem β} {Q Q' : β → Pos → Shared → Prop} {E E' : Value → Pos → Shared → Prop} {p : Pos} {s : Shared}, Sem.wp M Γ t Q E p s → (∀ a p s, Q a p s → Q' a p s) → (∀ a p s, E a p s → E' a p s) → Sem.wp M Γ t Q' E' p s := fun h a b => Sem.wp_mono M Γ _ a b _ _ h
  induction t with
  | pure a => exact fun Q E p s G q h => ⟨s, G, rfl, q, fun _ _ => rfl, h⟩
  | raise e => exact fun Q E p s G q h => ⟨s, G, rfl, q, fun _ _ => rfl, h⟩
  | unsupported _ => exact fun Q E p s G q h => h
  | finish _ => exact fun Q E p s G q h => h
  | rule _ k ih => exact fun Q E p s G q h => ih () Q E p s G q h
  | «at» p' k ih => exact fun Q E p s G q h => ih () Q E p' s G q h
  | load a _ k ih => exact fun Q E p s G q h => let ⟨o, ho, h⟩ := h; ⟨o, ho, ih o Q E p s G q h⟩
  | update a _ f k ih => exact fun Q E p s G q h => ⟨h.1, ih () Q E p { s with heap := s.heap.update a f } G q h.2⟩
  | loadIfAlive a k ih => exact fun Q E p s G q h => ih _ Q E p s G q h
  | point _ k ih => exact fun Q E p s G q h => ih () Q E p s G q h
  | register _ _ => exact fun Q E p s G q h => h
  | alloc o k ih => exact fun Q E p s G q h => ih s.heap.objs.size Q E p { s with heap := s.heap.push o } G q h
  | fresh k ih => exact fun Q E p s G q h => ih s.toks Q E p { s with toks := s.toks + 1 } G q h
  | ask k ih => exact fun Q E p s G q h => ih _ Q E p s G q h
  | choose src m k ih => exact fun Q E p s G q h => ⟨h.1, ih (M.w.draws src (s.drawn.get src) % m) Q E p { s with drawn := s.drawn.bump src } G q h.2⟩
  | os q' _ k ih => exact fun Q E p s G q h => ih (Os.step s.os q').2 Q E p { s with os := (Os.step s.os q').1 } G q h
  | call c hd _ _ k ih =>
    intro Q E p s G q h
    obtain ⟨r, s', hr, h⟩ := h
    obtain ⟨G1, r1, q1, k1, _⟩ := runs_swap hr rfl G q
    exact ⟨r, withG s' G1, r1, upg (ih r Q E p s' G1 q1 h) (fun _ _ _ z => z.trans k1) fun _ _ _ z => z.trans k1⟩
  | handled own k ih => exact fun Q E p s G q h => ih _ Q E p s G q h
  | genState g k ih =>
    intro Q E p s G q h
    obtain ⟨st, hs, h⟩ := h
    obtain ⟨a, ha⟩ := q.has hs
    refine ⟨a, ha, ?_⟩
    by_cases hg : S g
    · obtain ⟨e1, _⟩ := q.ins g a hg ha
      rw [hs] at e1
      cases e1
      rw [twinG_seen] at h
      exact ih _ Q E p s G q h
    · obtain ⟨e1, _⟩ := q.out g a hg ha
      rw [hs] at e1
      cases e1
      exact ih _ Q E p s G q h
  | newGen c k ih =>
    intro Q E p s G q h
    have h2 := ih s.gens.size Q E p { s with gens := s.gens.push (.fresh c) } _ (q.push c) h
    rw [q.size] at h2
    exact upg (p := p) (s := withG { s with gens := s.gens.push (.fresh c) } (G.push (.fresh c))) h2 (fun _ _ _ z => z.trans (KeptG.push q.low)) fun _ _ _ z => z.trans (KeptG.push q.low)
  | resume g r _ k ih =>
    intro Q E p s G q h
    obtain ⟨res, s', hw, h⟩ := h
    obtain ⟨G1, r1, q1, k1⟩ := wakes_swap hw q
    exact ⟨res, withG s' G1, r1, upg (ih res Q E p s' G1 q1 h) (fun _ _ _ z => z.trans k1) fun _ _ _ z => z.trans k1⟩
  | yield _ _ _ _ => exact fun Q E p s G q h => h
  | stack k ih => exact fun Q E p s G q h => ih _ Q E p s G q h
  | fork _ _ => exact fun Q E p s G q h => h
  | thread k ih => exact fun Q E p s G q h => ih _ Q E p s G q h
  | await _ _ _ _ _ => exact fun Q E p s G q h => h
theorem wpAny_swap {α : Type} {S : Nat → Prop} {M : Model} {A : Around} {t : Sem α} {Q : α → Shared → Prop} {E : Value → Shared → Prop} {s : Shared} {G : Array GenState} (q : TwT S G s.gens) (h : wpAny M A t Q E s) :
    wpAny M A t (Sw S G Q) (Sw S G E) (withG s G) := fun Γ p hΓ => wp_swap M Γ t Q E p s G q (h Γ p hΓ)
/-- all that sleep, twinned -/
def sleeps : GenState → Prop
  | .suspended .. => True
  | _ => False
theorem twT_map (G : Array GenState) : TwT (fun i => ∃ a, G[i]? = some a ∧ sleeps a) G (G.map twinG) where
  size := by simp
  low := fun i ⟨a, e, _⟩ => (Array.getElem?_eq_some_iff.mp e).1
  out := fun i a n e => by
    have z : ¬ sleeps a := fun y => n ⟨a, e, y⟩
    rw [Array.getElem?_map, e]
    cases a with
    | suspended => exact absurd trivial z
    | _ => exact ⟨rfl, trivial⟩
  ins := fun i a ⟨b, e', y⟩ e => by
    rw [e] at e'
    cases e'
    rw [StuckAt, Array.getElem?_map, e]
    cases a with
    | suspended k l c p fs cl => exact ⟨rfl, l, c, p, fs, cl, rfl⟩
    | _ => exact y.elim
theorem bare_twin {G : Array GenState} (h : PyProof.Rows.AllBare G) : PyProof.Rows.AllBare (G.map twinG) := fun y hy => by
  obtain ⟨a, ha, rfl⟩ := Array.mem_map.mp hy
  rw [twinG_bare]
  exact h a ha
theorem TwT.bare {S : Nat → Prop} {G T : Array GenState} (q : TwT S G T) (h : PyProof.Rows.AllBare T) : PyProof.Rows.AllBare G := fun y hy => by
  obtain ⟨i, hi, e⟩ := Array.mem_iff_getElem.mp hy
  have e1 : G[i]? = some y := by rw [Array.getElem?_eq_getElem hi, e]
  by_cases hs : S i
  · have z := h _ (Array.mem_of_getElem? (q.ins i y hs e1).1)
    rw [twinG_bare] at z
    exact z
  · exact h _ (Array.mem_of_getElem? (q.out i y hs e1).1)

/-! ### a generator that sleeps within the frame X: where it stands, what it leaves alone -/
structure GP where
  X : Cx
  Aw : Around
  N : List Str
  qual : Str
  scope : Scope
  f : Addr
  cd : Value
  L : Addr
  n0 : Nat
  D : Hp
def GP.env (G : GP) : Env := PyProof.Rows.envOfC G.qual G.scope G.L G.f G.cd
/-- its own frame, told from the state s0 -/
def GP.cx (G : GP) (s0 : Shared) : Cx where
  prog := G.X.prog
  w := G.X.w
  K := G.X.K
  mg := G.X.mg
  base := G.X.base
  A := G.Aw.deeper G.env
  N := G.N
  s_0 := s0
  H_0 := G.D
  env := G.env
  outer := G.X.stack
  stack := G.env :: G.X.stack
  ex := []
  fn := fun _ => true
  calm := true
  pn := []
  xe := fun _ _ => False
structure GP.Good (G : GP) : Prop where
  tups : ∀ b o, G.D b = some o → (∃ xs, o = .tup xs) ∧ b < G.n0
  le : G.n0 ≤ G.L
  nc : ∀ x c, G.env.cells.lookup x ≠ some c
  lt : G.X.env.locals < G.n0
  ltc : ∀ x c, G.X.env.cells.lookup x = some c → c < G.n0
  s0 : G.X.s_0.heap.objs.size ≤ G.n0
/-- the list that waits, if there is one -/
def GP.H (G : GP) : Option (Addr × List V) → Hp
  | none => G.D
  | some (l, ws) => upd G.D l (.lst ws)
def GP.ls : Option (Addr × List V) → List Addr
  | none => []
  | some (l, _) => [l]
def GSt (G : GP) (lo : Option (Addr × List V)) (σ : St) (s : Shared) : Prop := ∃ s0, s0.heap.objs.size = G.n0 ∧ Inv (G.cx s0) [] σ (G.H lo) s ∧ ∀ l ∈ GP.ls lo, G.n0 ≤ l
def GAw (G : GP) (lo : Option (Addr × List V)) (σ : St) (s : Shared) (s0 : Shared) (pins : List (Addr × Obj)) : Prop :=
  s0.heap.objs.size = G.n0 ∧ Inv (G.cx s0) pins σ (G.H lo) s ∧ (∀ l ∈ GP.ls lo, G.n0 ≤ l) ∧ (∀ b o, b < G.n0 → s.heap.get? b = some o → s0.heap.get? b = some o) ∧
    ∀ b o, G.n0 ≤ b → b ≠ G.L → b ∉ GP.ls lo → s.heap.get? b = some o → (∀ v, o.data ≠ .cell v) → (b, o) ∈ pins
/-- what its run leaves alone -/
structure KeepG (G : GP) (ls : List Addr) (s s1 : Shared) : Prop where
  os : s1.os = s.os
  bare : PyProof.Rows.AllBare s1.gens
  low : ∀ b o, b < G.n0 → G.D b = none → b ∉ frs G.X.stack → s.heap.get? b = some o → s1.heap.get? b = some o
  slot : ∀ b o, b < G.n0 → b ∈ frs G.X.stack → s.heap.get? b = some o → ∃ sl, s1.heap.get? b = some { o with slots := sl }
  high : ∀ b o, G.n0 ≤ b → b ≠ G.L → b ∉ ls → s.heap.get? b = some o → (∀ v, o.data ≠ .cell v) → s1.heap.get? b = some o
  tups : ∀ b xs, G.D b = some (.tup xs) → ObjOk G.X.prog G.X.w G.D s1.heap b (.tup xs)
section
variable {G : GP} {s0 s s1 : Shared} {pins : List (Addr × Obj)} {σ σ1 : St} {H1 : Hp} {lo : Option (Addr × List V)}
theorem GP.H_none {b : Addr} (hb : G.D b = none) (hn : b ∉ GP.ls lo) : G.H lo b = none := by
  cases lo with
  | none => exact hb
  | some p =>
    obtain ⟨l, ws⟩ := p
    show upd G.D l (.lst ws) b = none
    rw [upd_ne fun z => hn (by rw [z]; exact List.mem_singleton.mpr rfl)]
    exact hb
theorem GAw.keep (gd : G.Good) (a : GAw G lo σ s s0 pins) (I1 : Inv (G.cx s0) pins σ1 H1 s1) : KeepG G (GP.ls lo) s s1 := by
  obtain ⟨hz, I, hl, lowS, pa⟩ := a
  have fr : ∀ b ∈ frs G.X.stack, G.D b = none := I.ok.frf
  refine ⟨I1.os.trans I.os.symm, I1.bare, fun b o hb hD hf e => ?_, fun b o hb hf e => ?_, fun b o hb hL hl e hc => ?_, fun b xs e => ?_⟩
  · exact I1.base.keep b o (lowS b o hb e) hD hf (by simp [GP.cx])
  · exact I1.base.slot b o (lowS b o hb e) (fr b hf) hf (by simp [GP.cx])
  · exact (I1.pin (b, o) (List.mem_append_right _ (pa b o hb hL hl e hc))).1
  · obtain ⟨hz, its, r, p⟩ := I1.hok b _ (I1.base.tups b xs e)
    exact ⟨hz, its, r, p⟩
/-- behind its run: what it tracks is told anew -/
theorem GAw.rest (gd : G.Good) {l : Addr} {ws : List V} (hz : s0.heap.objs.size = G.n0) (I1 : Inv (G.cx s0) pins σ1 H1 s1) (hl : H1 l = some (.lst ws)) (hn : G.n0 ≤ l) : GSt G (some (l, ws)) σ1 s1 := by
  have lD : G.D l = none := by
    cases q : G.D l with
    | none => rfl
    | some o => exact absurd ((gd.tups l o q).2) (Nat.not_lt.mpr hn)
  have lL : G.L ≠ l := fun z => by
    have q : H1 G.L = none := I1.free
    rw [z, hl] at q
    cases q
  have Hn : ∀ b, H1 b = none → G.H (some (l, ws)) b = none := fun b q => by
    have hb : b ≠ l := fun z => by rw [z, hl] at q; cases q
    show upd G.D l (.lst ws) b = none
    rw [upd_ne hb]
    cases e : G.D b with
    | none => rfl
    | some o =>
      obtain ⟨⟨xs, rfl⟩, _⟩ := gd.tups b o e
      rw [I1.base.tups b xs e] at q
      cases q
  refine ⟨s0, hz, ⟨I1.ok, I1.os, I1.bare, ⟨I1.base.keep, I1.base.slot, fun b o e n hx => Hn b (I1.base.free b o e n hx), I1.base.there, fun b xs e => ?_, fun b o u e => ?_, fun b ps e => ?_⟩, I1.loc, I1.cell, Hn _ I1.free, fun x c e => Hn _ (I1.freeC x c e),
    fun p hp => absurd (show p ∈ ([] : List (Addr × Obj)) from hp) (by simp), fun b o e => ?_, I1.len⟩, fun b hb => ?_⟩
  · show upd G.D l (.lst ws) b = _
    rw [upd_ne fun z => by rw [z] at e; rw [show G.D l = _ from e] at lD; cases lD]
    exact e
  · obtain ⟨⟨xs, z⟩, _⟩ := gd.tups b _ e
    cases z
  · obtain ⟨⟨xs, z⟩, _⟩ := gd.tups b _ e
    cases z
  · have e : upd G.D l (.lst ws) b = some o := e
    by_cases hb : b = l
    · subst hb
      rw [upd_same] at e
      cases e
      exact I1.hok b _ hl
    · rw [upd_ne hb] at e
      obtain ⟨⟨xs, rfl⟩, _⟩ := gd.tups b o e
      exact I1.hok b _ (I1.base.tups b xs e)
  · rw [List.mem_singleton.mp hb]
    exact hn
end

/-! ### woken again: told from the state at hand -/
def cutH (h : Heap) (n : Nat) : Heap := { h with objs := h.objs.extract 0 n }
theorem cutH_size {h : Heap} {n : Nat} (e : n ≤ h.objs.size) : (cutH h n).objs.size = n := by
  show (h.objs.extract 0 n).size = n
  rw [Array.size_extract]
  omega
theorem cutH_get {h : Heap} {n : Nat} {b : Addr} (hb : b < n) : (cutH h n).get? b = h.get? b := by
  have e : (cutH h n).objs[b]? = h.objs[b]? := by
    show (h.objs.extract 0 n)[b]? = _
    rw [Array.getElem?_extract]
    simp [hb]
    intro q
    rcases Nat.le_total n h.objs.size with y | y
    · rw [Nat.min_eq_left y] at q
      exact absurd q (Nat.not_le.mpr hb)
    · rw [Nat.min_eq_right y] at q
      exact q
  unfold Heap.get?
  rw [e]
theorem of_cutH {h : Heap} {n : Nat} {b : Addr} {o : Obj} (e : (cutH h n).get? b = some o) : h.get? b = some o := by
  by_cases hb : b < n
  · rw [cutH_get hb] at e
    exact e
  · have q := Heap.lt_size e
    have z : (cutH h n).objs.size ≤ n := by
      show (h.objs.extract 0 n).size ≤ n
      rw [Array.size_extract]
      omega
    exact absurd (Nat.lt_of_lt_of_le q z) hb
theorem funs_cut {h base : Heap} {n : Nat} : ∀ {l : List Env}, h.FunFrames base l → (∀ b ∈ frs l, b < n) → (cutH h n).FunFrames base l
  | [], _, _ => trivial
  | env :: r, hl, hb => by
    obtain ⟨hk, ⟨L, o, hf, hn, ho, hd⟩, hr⟩ := hl
    have e : frs (env :: r) = L :: frs r := by
      unfold frs
      rw [List.filterMap_cons, hf]
    rw [e] at hb
    exact ⟨hk, ⟨L, o, hf, hn, (cutH_get (hb L List.mem_cons_self)).trans ho, hd⟩, funs_cut hr fun b h => hb b (List.mem_cons_of_mem _ h)⟩
/-- all the things from n0 on, but the frame and the list -/
def pinsG (G : GP) (ls : List Addr) (h : Heap) : List (Addr × Obj) := (List.range h.objs.size).filterMap fun b => if b < G.n0 ∨ b = G.L ∨ b ∈ ls then none else match h.get? b with
  | some o => match o.data with
    | .cell _ => none
    | _ => some (b, o)
  | none => none
theorem of_pinsG {G : GP} {ls : List Addr} {h : Heap} {p : Addr × Obj} (q : p ∈ pinsG G ls h) : G.n0 ≤ p.1 ∧ p.1 ≠ G.L ∧ p.1 ∉ ls ∧ h.get? p.1 = some p.2 ∧ ∀ v, p.2.data ≠ .cell v := by
  obtain ⟨b, _, e⟩ := List.mem_filterMap.mp q
  split at e
  · cases e
  · rename_i hn
    split at e
    · rename_i o ho
      split at e
      · cases e
      · rename_i hd
        cases e
        exact ⟨Nat.le_of_not_lt fun z => hn (.inl z), fun z => hn (.inr (.inl z)), fun z => hn (.inr (.inr z)), ho, fun v z => hd v z⟩
    · cases e
theorem mem_pinsG {G : GP} {ls : List Addr} {h : Heap} {b : Addr} {o : Obj} (h1 : G.n0 ≤ b) (h2 : b ≠ G.L) (h3 : b ∉ ls) (e : h.get? b = some o) (d : ∀ v, o.data ≠ .cell v) : (b, o) ∈ pinsG G ls h := by
  refine List.mem_filterMap.mpr ⟨b, List.mem_range.mpr (Heap.lt_size e), ?_⟩
  rw [if_neg (fun z => z.elim (fun z => absurd z (Nat.not_lt.mpr h1)) fun z => z.elim h2 h3), e]
  dsimp only
  split
  · rename_i v z
    exact absurd z (d v)
  · rfl
/-- what is true of the consumer's things -/
structure TX (G : GP) (H : Hp) : Prop where
  sub : ∀ b xs, G.D b = some (.tup xs) → H b = some (.tup xs)
  out : ∀ b o, H b = some o → (b < G.n0 ∧ (G.D b = none ∨ G.D b = some o)) ∨ (G.n0 ≤ b ∧ ∃ xs, o = .tup xs)
section
variable {G : GP} {s0 s s1 : Shared} {pins : List (Addr × Obj)} {σ σ1 : St} {H : Hp} {lo : Option (Addr × List V)}
theorem GSt.wake (gd : G.Good) (a : GSt G lo σ1 s) (I : Inv G.X pins σ H s1) (tx : TX G H) (kL : ∀ o, s.heap.get? G.L = some o → s1.heap.get? G.L = some o) (kl : ∀ l ∈ GP.ls lo, ∀ o, s.heap.get? l = some o → s1.heap.get? l = some o) :
    ∃ s0 pins', GAw G lo σ1 s1 s0 pins' := by
  obtain ⟨s0, hz, J, hl⟩ := a
  have hsz : G.n0 ≤ s1.heap.objs.size := by
    obtain ⟨m, ⟨o, es, ep, ho, _⟩, _⟩ := J.loc
    exact Nat.le_trans gd.le (Nat.le_of_lt (Heap.lt_size (kL o ho)))
  have hz' : ({ s1 with heap := cutH s1.heap G.n0 } : Shared).heap.objs.size = G.n0 := cutH_size hsz
  have Dn : ∀ b, H b = none → G.D b = none := fun b q => by
    cases e : G.D b with
    | none => rfl
    | some o =>
      obtain ⟨⟨xs, rfl⟩, _⟩ := gd.tups b o e
      rw [tx.sub b xs e] at q
      cases q
  have Dlo : ∀ b, G.n0 ≤ b → G.D b = none := fun b hb => by
    cases e : G.D b with
    | none => rfl
    | some o => exact absurd (gd.tups b o e).2 (Nat.not_lt.mpr hb)
  have frl : ∀ b ∈ frs G.X.stack, b < G.n0 := fun b hb => by
    rcases List.mem_cons.mp (I.stkSub b hb) with z | z
    · rw [z]
      exact gd.lt
    · obtain ⟨_, o, ho, _⟩ := I.ok.funs.mem z
      exact Nat.lt_of_lt_of_le (Heap.lt_size ho) gd.s0
  have ncell : ∀ x c, (G.cx s0).env.cells.lookup x = some c → False := fun x c e => gd.nc x c e
  have hL : (G.cx s0).env.locals = G.L := rfl
  refine ⟨{ s1 with heap := cutH s1.heap G.n0 }, pinsG G (GP.ls lo) s1.heap, hz', ⟨⟨J.ok.mod, J.ok.kind, rfl, rfl, Nat.le_trans (Nat.le_of_eq hz') gd.le, fun x y c e => absurd e (gd.nc x c), J.ok.has, fun x c _ e => absurd e (gd.nc x c), J.ok.hd, J.ok.frames, J.ok.stk, fun b hb => absurd hb (by simp [GP.cx]),
    fun b o e => ?_, Nat.le_trans (Nat.le_trans I.ok.bsz gd.s0) (Nat.le_of_eq hz'.symm), fun b o e => by simp [GP.cx], fun b hb => absurd hb (by simp [GP.cx]), funs_cut I.stack frl, J.ok.frf⟩,
    rfl, I.bare, ⟨fun b o e _ _ _ => of_cutH e, fun b o e _ _ _ => ⟨o.slots, of_cutH e⟩, fun b o e n _ => GP.H_none n fun z => ?_, fun b o e _ => ⟨o, of_cutH e⟩, fun b xs e => ?_, fun b o u e => ?_, fun b ps e => ?_⟩, ?_, fun x c e => absurd e (gd.nc x c), J.free, fun x c e => absurd e (gd.nc x c), fun p hp => ?_, fun b o e => ?_, J.len⟩,
    hl, fun b o hb e => (cutH_get hb).trans e, fun b o h1 h2 h3 e d => mem_pinsG h1 h2 h3 e d⟩
  · have q := I.bs b o e
    have hb : b < G.n0 := Nat.lt_of_lt_of_le (Heap.lt_size e) (Nat.le_trans I.ok.bsz gd.s0)
    exact ⟨(cutH_get hb).trans q.1, Dn b q.2⟩
  · exact absurd (hl b z) (Nat.not_le.mpr (Nat.lt_of_lt_of_le (Heap.lt_size e) (Nat.le_of_eq hz')))
  · have hb : b < G.n0 := (gd.tups b _ e).2
    cases lo with
    | none => exact e
    | some p =>
      obtain ⟨l, ws⟩ := p
      show upd G.D l (.lst ws) b = _
      rw [upd_ne fun z => absurd (hl l (List.mem_singleton.mpr rfl)) (by rw [← z]; exact Nat.not_le.mpr hb)]
      exact e
  · obtain ⟨⟨xs, z⟩, _⟩ := gd.tups b _ e
    cases z
  · obtain ⟨⟨xs, z⟩, _⟩ := gd.tups b _ e
    cases z
  · obtain ⟨m, ⟨o, es, ep, ho, r⟩, q⟩ := J.loc
    refine ⟨m, ⟨o, es, ep, kL o ho, r⟩, fun i x v e1 e2 e3 => ?_⟩
    obtain ⟨u, r1, lk⟩ := q i x v e1 e2 e3
    refine ⟨u, r1, ?_⟩
    rcases lk with lk | ⟨_, c, e, _⟩
    · exact .inl lk
    · exact absurd e (gd.nc x c)
  · have hp : p ∈ pinsG G (GP.ls lo) s1.heap := hp
    obtain ⟨h1, h2, h3, e, d⟩ := of_pinsG hp
    exact ⟨e, GP.H_none (Dlo _ h1) h3, h2, fun z => absurd (frl _ z) (Nat.not_lt.mpr h1), d⟩
  · have old : ∀ xs, G.D b = some (.tup xs) → ObjOk G.X.prog G.X.w (G.H lo) s1.heap b (.tup xs) := fun xs e => by
      obtain ⟨hz, its, r, p⟩ := I.hok b _ (tx.sub b xs e)
      exact ⟨hz, its, r, p⟩
    cases lo with
    | none =>
      obtain ⟨⟨xs, rfl⟩, _⟩ := gd.tups b o e
      exact old xs e
    | some p =>
      obtain ⟨l, ws⟩ := p
      by_cases hb : b = l
      · subst hb
        have e' : upd G.D b (.lst ws) b = some o := e
        rw [upd_same] at e'
        cases e'
        obtain ⟨hz, its, n, r, p⟩ := J.hok b (.lst ws) upd_same
        exact ⟨hz, its, n, r, kl b (List.mem_singleton.mpr rfl) _ p⟩
      · have e' : upd G.D l (.lst ws) b = some o := e
        rw [upd_ne hb] at e'
        obtain ⟨⟨xs, rfl⟩, _⟩ := gd.tups b o e'
        exact old xs e'
/-- behind its run the consumer stands as it stood -/
theorem KeepG.back {ls : List Addr} (gd : G.Good) (I : Inv G.X pins σ H s) (tx : TX G H) (k : KeepG G ls s s1) (hn : ∀ l ∈ ls, H l = none) (hL : H G.L = none) (hp : ∀ p ∈ G.X.pn ++ pins, p.1 ≠ G.L ∧ p.1 ∉ ls) : Inv G.X pins σ H s1 := by
  have Dn : ∀ b, H b = none → G.D b = none := fun b q => by
    cases e : G.D b with
    | none => rfl
    | some o =>
      obtain ⟨⟨xs, rfl⟩, _⟩ := gd.tups b o e
      rw [tx.sub b xs e] at q
      cases q
  have frl : ∀ b ∈ frs G.X.stack, b < G.n0 := fun b hb => by
    rcases List.mem_cons.mp (I.stkSub b hb) with z | z
    · rw [z]
      exact gd.lt
    · obtain ⟨_, o, ho, _⟩ := I.ok.funs.mem z
      exact Nat.lt_of_lt_of_le (Heap.lt_size ho) gd.s0
  have any : ∀ b o, b < G.n0 → G.D b = none → s.heap.get? b = some o → ∃ sl, s1.heap.get? b = some { o with slots := sl } := fun b o hb hD e => by
    by_cases hf : b ∈ frs G.X.stack
    · exact k.slot b o hb hf e
    · exact ⟨o.slots, k.low b o hb hD hf e⟩
  have nf : ∀ b, b ≠ G.X.env.locals → b ∉ G.X.fs → b ∉ frs G.X.stack := fun b h1 h2 z => by
    rcases List.mem_cons.mp (I.stkSub b z) with y | y
    · exact h1 y
    · exact h2 y
  have lt0 : ∀ b o, G.X.s_0.heap.get? b = some o → b < G.n0 := fun b o e => Nat.lt_of_lt_of_le (Heap.lt_size e) gd.s0
  have ncl : ∀ b o, G.X.s_0.heap.get? b = some o → b ≠ G.X.env.locals := fun b o e => Nat.ne_of_lt (Nat.lt_of_lt_of_le (Heap.lt_size e) I.ok.above)
  have cellK : ∀ x c v, G.X.env.cells.lookup x = some c → s.heap.IsCell c v → s1.heap.IsCell c v := fun x c v e ⟨o, ho, hd⟩ => by
    obtain ⟨sl, q⟩ := any c o (gd.ltc x c e) (Dn c (I.freeC x c e)) ho
    exact ⟨_, q, hd⟩
  refine ⟨I.ok, k.os.trans I.os, k.bare, ⟨fun b o e n hb hx => ?_, fun b o e n hb hx => ?_, I.base.free, fun b o e hx => ?_, I.base.tups, I.base.frzs, I.base.tbls⟩, ?_, fun x c e => ?_, I.free, I.freeC, fun p h => ?_, fun b o e => ?_, I.len⟩
  · exact k.low b o (lt0 b o e) (Dn b (I.base.free b o e n hx)) (nf b (ncl b o e) hb) (I.base.keep b o e n hb hx)
  · obtain ⟨sl, e1⟩ := I.base.slot b o e n hb hx
    obtain ⟨sl2, e2⟩ := any b _ (lt0 b o e) (Dn b (I.base.free b o e n hx)) e1
    exact ⟨sl2, e2⟩
  · obtain ⟨o', e1⟩ := I.base.there b o e hx
    cases q : G.D b with
    | none =>
      obtain ⟨sl, e2⟩ := any b o' (lt0 b o e) q e1
      exact ⟨_, e2⟩
    | some u =>
      obtain ⟨⟨xs, rfl⟩, _⟩ := gd.tups b u q
      obtain ⟨_, _, _, o2, e2, _⟩ := k.tups b xs q
      exact ⟨o2, e2⟩
  · obtain ⟨m, ⟨o, es, ep, ho, r⟩, q⟩ := I.loc
    obtain ⟨sl, e2⟩ := any _ o gd.lt (Dn _ I.free) ho
    refine ⟨m, ⟨_, es, ep, e2, r⟩, fun i x v e1 e3 e4 => ?_⟩
    obtain ⟨u, r1, lk⟩ := q i x v e1 e3 e4
    refine ⟨u, r1, ?_⟩
    rcases lk with lk | ⟨z, c, e, y⟩
    · exact .inl lk
    · exact .inr ⟨z, c, e, cellK x c _ e y⟩
  · obtain ⟨v, y⟩ := I.cell x c e
    exact ⟨v, cellK x c v e y⟩
  · obtain ⟨e, n, ne, nfs, d⟩ := I.pin p h
    refine ⟨?_, n, ne, nfs, d⟩
    by_cases hb : p.1 < G.n0
    · exact k.low p.1 p.2 hb (Dn _ n) (nf _ ne nfs) e
    · exact k.high p.1 p.2 (Nat.le_of_not_lt hb) (hp p h).1 (hp p h).2 e d
  · have x := I.hok b o e
    have tupK : ∀ (c : Addr) (u : Obj), H c ≠ none → (∀ xs, H c ≠ some (.tup xs)) → s.heap.get? c = some u → s1.heap.get? c = some u := fun c u h1 h2 e2 => by
      cases q : H c with
      | none => exact absurd q h1
      | some y =>
        rcases tx.out c y q with ⟨hc, hd⟩ | ⟨_, xs, z⟩
        · have hD : G.D c = none := by
            rcases hd with hd | hd
            · exact hd
            · obtain ⟨⟨xs, rfl⟩, _⟩ := gd.tups c y hd
              exact absurd q (h2 xs)
          refine k.low c u hc hD (fun z => ?_) e2
          have q2 := I.stkFree c z
          rw [q] at q2
          cases q2
        · rw [z] at q
          exact absurd q (h2 xs)
    by_cases ht : ∃ xs, o = .tup xs
    · obtain ⟨xs, rfl⟩ := ht
      rcases tx.out b _ e with ⟨hb, hd⟩ | ⟨hb, _⟩
      · rcases hd with hd | hd
        · obtain ⟨z, its, r, ob, eb, hc, n, he⟩ := x
          have hf : b ∉ frs G.X.stack := fun z => by
            have q2 := I.stkFree b z
            rw [e] at q2
            cases q2
          exact ⟨z, its, r, ob, k.low b ob hb hd hf eb, hc, n, he⟩
        · obtain ⟨z, its, r, p⟩ := k.tups b xs hd
          exact ⟨z, its, r, p⟩
      · obtain ⟨z, its, r, ob, eb, hc, n, he⟩ := x
        refine ⟨z, its, r, ob, k.high b ob hb (fun z => ?_) (fun z => ?_) eb (fun v q => ?_), hc, n, he⟩
        · rw [z, hL] at e
          cases e
        · rw [hn b z] at e
          cases e
        · rw [he] at q
          cases q
    · refine x.stay (fun c u hc e2 => ?_) (fun _ y => y) fun _ _ y => y
      rcases hc with rfl | hc
      · exact tupK c u (by rw [e]; simp) (fun xs q => ht ⟨xs, by rw [e] at q; exact Option.some.inj q⟩) e2
      · exact tupK c u (by rw [hc]; simp) (fun xs q => by rw [hc] at q; cases q) e2
end

/-! ### a walk: while waiting: found = waiting.pop(); yield found; waiting.extend(..) -/
section
variable {X : Cx} {es : List Expr} {t : TA} {pos : Pos}
/-- a list of written items, behind the frame -/
theorem pe_lstN (h : PA X es t) : PE X (.List es pos) (fun σ H Q => t σ H fun xs H1 => xs.length ≤ sizeLine ∧ ∀ p, H1 p = none → X.env.locals < p → Q (.ref p) (upd H1 p (.lst xs))) := by
  refine ⟨fun pins s σ H Q I hq => wpAny_List_spliced (thn (h.run pos pins s σ H _ I hq) fun us s1 ⟨xs, H1, I1, r, z, q⟩ => ⟨by rw [← r.length]; exact z, ?_⟩)⟩
  have hf := I1.hok.fresh (Nat.le_refl s1.heap.objs.size)
  exact ⟨.ref s1.heap.objs.size, upd H1 s1.heap.objs.size (.lst xs), I1.laid (a := s1.heap.objs.size) (t' := s1.toks) (fun b u e => Heap.get?_push_of_some _ e) (Nat.le_refl _) ⟨z, us, 0, r, Heap.get?_push_size _ rfl⟩, rfl, q _ hf I1.lt⟩
end
/-- lists that the generator made -/
def LsOk (G : GP) (ls : List Addr) (s : Shared) : Prop := ∀ l ∈ ls, G.n0 ≤ l ∧ l ≠ G.L ∧ ∃ o, s.heap.get? l = some o ∧ o.cls = .type "list"
/-- how a walk's own statements run -/
structure WBody (G : GP) {δ : Type} (T : V → δ → Prop) (kids : δ → List δ) (v : V) (st1 : Stmt) (test : Expr) (sA : Stmt) (nm : Expr) (sB : Stmt) : Prop where
  f1 : ∀ (s0 : Shared) (pins : List (Addr × Obj)) (H : Hp) (s : Shared), Inv (G.cx s0) pins [some v, none, none] H s →
    wpAny (model G.X.prog G.X.w) (G.cx s0).A (exec st1 G.env) (fun fl s' => fl = .next ∧ ∃ l, G.n0 ≤ l ∧ H l = none ∧ Inv (G.cx s0) pins [some v, some (.ref l), none] (upd H l (.lst [v])) s') (fun _ _ => False) s
  f2 : ∀ (s0 : Shared) (pins : List (Addr × Obj)) (l : Addr) (y : Option V) (ws : List V) (H : Hp) (s : Shared), Inv (G.cx s0) pins [some v, some (.ref l), y] H s → H l = some (.lst ws) →
    wpAny (model G.X.prog G.X.w) (G.cx s0).A (isTrue test G.env (eval test G.env)) (fun b s' => b = !ws.isEmpty ∧ Inv (G.cx s0) pins [some v, some (.ref l), y] H s') (fun _ _ => False) s
  f3 : ∀ (s0 : Shared) (pins : List (Addr × Obj)) (l : Addr) (y : Option V) (ws : List V) (x : V) (H : Hp) (s : Shared), Inv (G.cx s0) pins [some v, some (.ref l), y] H s → H l = some (.lst (ws ++ [x])) →
    wpAny (model G.X.prog G.X.w) (G.cx s0).A (exec sA G.env) (fun fl s' => fl = .next ∧ Inv (G.cx s0) pins [some v, some (.ref l), some x] (upd H l (.lst ws)) s') (fun _ _ => False) s
  f4 : ∀ (s0 : Shared) (pins : List (Addr × Obj)) (l : Addr) (x : V) (H : Hp) (s : Shared), Inv (G.cx s0) pins [some v, some (.ref l), some x] H s →
    wpAny (model G.X.prog G.X.w) (G.cx s0).A (eval nm G.env) (fun u s' => RelV x u ∧ Inv (G.cx s0) pins [some v, some (.ref l), some x] H s') (fun _ _ => False) s
  f5 : ∀ (s0 : Shared) (pins : List (Addr × Obj)) (l : Addr) (x : V) (d : δ) (ws : List V) (H : Hp) (s : Shared), Inv (G.cx s0) pins [some v, some (.ref l), some x] H s → H l = some (.lst ws) → T x d →
    (∀ b xs, G.D b = some (.tup xs) → H b = some (.tup xs)) → ws.length + (kids d).length ≤ sizeLine →
    wpAny (model G.X.prog G.X.w) (G.cx s0).A (exec sB G.env) (fun fl s' => fl = .next ∧ ∃ H' ys, Paired T ys (kids d) ∧ Inv (G.cx s0) pins [some v, some (.ref l), some x] H' s' ∧ H' l = some (.lst (ws ++ ys.reverse))) (fun _ _ => False) s
theorem paired_len {α β : Type} {R : α → β → Prop} {xs : List α} {ys : List β} (h : Paired R xs ys) : xs.length = ys.length := Paired.length h
theorem paired_app {α β : Type} {R : α → β → Prop} : ∀ {a c : List α} {b d : List β}, Paired R a b → Paired R c d → Paired R (a ++ c) (b ++ d)
  | _, _, _, _, .nil, s => s
  | _, _, _, _, .cons r t, s => .cons r (paired_app t s)
theorem paired_rev {α β : Type} {R : α → β → Prop} : ∀ {a : List α} {b : List β}, Paired R a b → Paired R a.reverse b.reverse
  | _, _, .nil => .nil
  | _, _, .cons r t => by
    rw [List.reverse_cons, List.reverse_cons]
    exact paired_app (paired_rev t) (.cons r .nil)
theorem paired_snoc {α β : Type} {R : α → β → Prop} {a : List α} {x : α} {b : List β} (h : Paired R (a ++ [x]) b) : ∃ b' y, b = b' ++ [y] ∧ Paired R a b' ∧ R x y := by
  have q := paired_rev h
  rw [List.reverse_append] at q
  cases hb : b.reverse with
  | nil =>
    rw [hb] at q
    cases q
  | cons y r =>
    rw [hb] at q
    cases q with
    | cons q1 q2 =>
      refine ⟨r.reverse, y, ?_, ?_, q1⟩
      · rw [← List.reverse_reverse b, hb, List.reverse_cons]
      · have q2 : Paired R a.reverse r := q2
        have q3 := paired_rev q2
        rw [List.reverse_reverse] at q3
        exact q3
/-- what a stack will hand out -/
def itemsW {δ : Type} (pre : δ → List δ) (ds : List δ) : List δ := ds.reverse.flatMap pre
theorem itemsW_pop {δ : Type} {pre : δ → List δ} {kids : δ → List δ} (hp : ∀ d, pre d = d :: (kids d).flatMap pre) (ds : List δ) (d : δ) : itemsW pre (ds ++ [d]) = d :: itemsW pre (ds ++ (kids d).reverse) := by
  unfold itemsW
  rw [List.reverse_append, List.reverse_append, List.reverse_reverse, List.flatMap_append, List.flatMap_append]
  simp [hp d]
theorem itemsW_len {δ : Type} {pre : δ → List δ} {kids : δ → List δ} (hp : ∀ d, pre d = d :: (kids d).flatMap pre) (ds : List δ) : ds.length ≤ (itemsW pre ds).length := by
  unfold itemsW
  rw [← List.length_reverse]
  generalize ds.reverse = r
  induction r with
  | nil => exact Nat.zero_le _
  | cons d r ih =>
    rw [List.flatMap_cons, List.length_append, List.length_cons, hp d, List.length_cons]
    omega
section
variable (G : GP) {δ : Type} (T : V → δ → Prop) (kids pre : δ → List δ) (v : V) (L0 : List δ)
/-- an item is handed out -/
def WY : Protocol := fun n s₀ u s kap => ∃ (l : Addr) (ws : List V) (x : V) (ds : List δ) (d : δ) (ls : List Addr), RelV x u ∧ Paired T ws ds ∧ T x d ∧ n + 1 ≤ L0.length ∧ d :: itemsW pre (ds ++ (kids d).reverse) = L0.drop (L0.length - (n + 1)) ∧
  LsOk G ls s₀ ∧ KeepG G ls s₀ s ∧ G.n0 ≤ l ∧ GSt G (some (l, ws)) [some v, some (.ref l), some x] s ∧ ∀ s2 s0 pins, GAw G (some (l, ws)) [some v, some (.ref l), some x] s2 s0 pins → kap (.send .none) s2
/-- the end -/
def WR : GenEnd := fun n s₀ r s => r = .ok (.ret .none) ∧ n = 0 ∧ ∃ ls, LsOk G ls s₀ ∧ KeepG G ls s₀ s
end
section
variable {G : GP} {δ : Type} {T : V → δ → Prop} {kids pre : δ → List δ} {v : V} {L0 : List δ} {st1 sA sB : Stmt} {test nm : Expr} {wp yp ep : Pos}
theorem lsOk_of {lo : Option (Addr × List V)} {σ : St} {s s0 : Shared} {pins : List (Addr × Obj)} (gd : G.Good) (a : GAw G lo σ s s0 pins) : LsOk G (GP.ls lo) s := by
  obtain ⟨hz, I, hl, _, _⟩ := a
  cases lo with
  | none => exact fun l h => absurd h (by simp [GP.ls])
  | some p =>
    obtain ⟨l, ws⟩ := p
    intro b hb
    have e : b = l := List.mem_singleton.mp hb
    subst e
    refine ⟨hl b hb, fun z => ?_, ?_⟩
    · have q : upd G.D b (.lst ws) G.L = none := I.free
      rw [z, upd_same] at q
      cases q
    · obtain ⟨_, its, n, _, p⟩ := I.hok b (.lst ws) upd_same
      exact ⟨_, p, rfl⟩
theorem walk_seg (gd : G.Good) (hp : ∀ d, pre d = d :: (kids d).flatMap pre) (B : WBody G T kids v st1 test sA nm sB) (hco : G.env.scope.isCoroutine = false) (hi : interactive G.env = false) (hz : L0.length ≤ sizeLine) (hL : L0 = itemsW pre [d0]) (hv : T v d0) :
    ∀ (s s0 : Shared) (pins : List (Addr × Obj)), GAw G none [some v, none, none] s s0 pins →
      Seg (model G.X.prog G.X.w) G.Aw (WR G) (WY G T kids pre v L0) L0.length s (.func [st1, .While test [sA, .Expr (.Yield (some nm) yp) ep, sB] [] wp] G.env) ((model G.X.prog G.X.w).den (.func [st1, .While test [sA, .Expr (.Yield (some nm) yp) ep, sB] [] wp] G.env)) [] s := by
  have over : ∀ {k : Result → Sem PySem.Fin} {g : Bool} {lv kp : List Value} {p : Pos}, G.Aw.over (.whileLoop test [sA, .Expr (.Yield (some nm) yp) ep, sB] [] G.env) (.ret k none g lv (.func [st1, .While test [sA, .Expr (.Yield (some nm) yp) ep, sB] [] wp] G.env) p kp :: []) = G.Aw.deeper G.env :=
    fun {k g lv kp p} => (GenW.over_loop rfl rfl).trans GenW.over_func
  -- the loop, behind a start
  have loop : ∀ (k : Result → Sem PySem.Fin) (lv : List Value) (p : Pos), (∀ s₀ s, WR G 0 s₀ (.ok (.ret .none)) s → Seg (model G.X.prog G.X.w) G.Aw (WR G) (WY G T kids pre v L0) 0 s₀ (.func [st1, .While test [sA, .Expr (.Yield (some nm) yp) ep, sB] [] wp] G.env) (k (.ok .next)) [] s) →
      ∀ (n : Nat) (s₀ s s0 : Shared) (pins : List (Addr × Obj)) (lo : Option (Addr × List V)) (σ₀ : St) (l : Addr) (y : Option V) (ws : List V) (ds : List δ) (H : Hp), GAw G lo σ₀ s₀ s0 pins → G.n0 ≤ l → Inv (G.cx s0) pins [some v, some (.ref l), y] H s → H l = some (.lst ws) →
        Paired T ws ds → n ≤ L0.length → itemsW pre ds = L0.drop (L0.length - n) →
        Seg (model G.X.prog G.X.w) G.Aw (WR G) (WY G T kids pre v L0) n s₀ (.whileLoop test [sA, .Expr (.Yield (some nm) yp) ep, sB] [] G.env) ((model G.X.prog G.X.w).den (.whileLoop test [sA, .Expr (.Yield (some nm) yp) ep, sB] [] G.env))
          (.ret k none false lv (.func [st1, .While test [sA, .Expr (.Yield (some nm) yp) ep, sB] [] wp] G.env) p [] :: []) s := by
    intro k lv p hk n
    induction n with
    | zero =>
      intro s₀ s s0 pins lo σ₀ l y ws ds H ga hn0 I hl pr hn e
      refine seg_whileLoop ?_
      rw [over]
      refine wpAny_mono (B.f2 s0 pins l y ws H s I hl) (fun b s' ⟨eb, I1⟩ => ?_) fun _ _ z => z.elim
      have e0 : itemsW pre ds = [] := by rw [e]; simp
      have d0 : ds = [] := by
        have := itemsW_len hp ds
        rw [e0] at this
        exact List.eq_nil_of_length_eq_zero (Nat.le_zero.mp this)
      have w0 : ws = [] := by
        have := paired_len pr
        rw [d0] at this
        exact List.eq_nil_of_length_eq_zero this
      subst w0
      have eb : b = false := eb
      subst eb
      rw [if_neg Bool.false_ne_true]
      refine seg_execs_nil (seg_leaf (.ok .next) (hk s₀ s' ⟨rfl, rfl, GP.ls lo, lsOk_of gd ga, ga.keep gd I1⟩))
    | succ m ih =>
      intro s₀ s s0 pins lo σ₀ l y ws ds H ga hn0 I hl pr hn e
      refine seg_whileLoop ?_
      rw [over]
      refine wpAny_mono (B.f2 s0 pins l y ws H s I hl) (fun b s' ⟨eb, I1⟩ => ?_) fun _ _ z => z.elim
      have hne : ds ≠ [] := fun z => by
        rw [z] at e
        have := congrArg List.length e
        rw [List.length_drop] at this
        simp [itemsW] at this
        omega
      obtain ⟨ws', x, rfl⟩ : ∃ w x, ws = w ++ [x] := by
        have hw : ws ≠ [] := fun z => by
          have := paired_len pr
          rw [z] at this
          exact hne (List.eq_nil_of_length_eq_zero this.symm)
        exact ⟨ws.dropLast, ws.getLast hw, (List.dropLast_concat_getLast hw).symm⟩
      obtain ⟨ds', d, rfl, pr', tx⟩ := paired_snoc pr
      have eb : b = true := by rw [eb]; simp
      subst eb
      rw [if_pos rfl]
      refine seg_execs_cons (seg_wrap ?_)
      rw [over]
      refine wpAny_mono (B.f3 s0 pins l y ws' x H s' I1 hl) (fun fl s2 ⟨ef, I2⟩ => ?_) fun _ _ z => z.elim
      subst ef
      refine seg_execs_cons (seg_Expr_Yield rfl rfl rfl ?_ hco hi)
      rw [over]
      refine wpAny_mono (B.f4 s0 pins l x _ s2 I2) (fun u s3 ⟨ru, I3⟩ => ?_) fun _ _ z => z.elim
      intro kap hkap
      rw [itemsW_pop hp] at e
      refine ⟨l, ws', x, ds', d, GP.ls lo, ru, pr', tx, hn, e, lsOk_of gd ga, ga.keep gd I3, hn0, GAw.rest gd ga.1 I3 upd_same hn0, fun s4 t0 pins4 a4 => hkap .none s4 ?_⟩
      refine seg_execs_cons (seg_wrap ?_)
      rw [over]
      have I4 := a4.2.1
      have len : ws'.length + (kids d).length ≤ sizeLine := by
        have h1 := itemsW_len hp (ds' ++ (kids d).reverse)
        have h2 := congrArg List.length e
        rw [List.length_drop, List.length_cons] at h2
        rw [List.length_append, List.length_reverse] at h1
        have h3 := paired_len pr'
        omega
      refine wpAny_mono (B.f5 t0 pins4 l x d ws' _ s4 I4 upd_same tx (fun b xs q => ?_) len) (fun fl s5 ⟨ef, H5, ys, py, I5, hl5⟩ => ?_) fun _ _ z => z.elim
      · have hb : b ≠ l := fun z => absurd (gd.tups b _ q).2 (by rw [z]; exact Nat.not_lt.mpr hn0)
        show upd G.D l (.lst ws') b = _
        rw [upd_ne hb]
        exact q
      · subst ef
        refine seg_execs_nil (seg_again rfl ?_)
        refine ih s4 s5 t0 pins4 (some (l, ws')) _ l (some x) (ws' ++ ys.reverse) (ds' ++ (kids d).reverse) H5 a4 hn0 I5 hl5 (paired_app pr' (paired_rev py)) (by omega) ?_
        have h2 := congrArg List.tail e
        rw [List.tail_cons, List.tail_drop] at h2
        rw [h2]
        congr 1
        omega
  intro s s0 pins ga
  refine seg_func ?_
  refine seg_execs_cons (seg_wrap ?_)
  rw [GenW.over_func]
  refine wpAny_mono (B.f1 s0 pins G.D s ga.2.1) (fun fl s1 ⟨ef, l, hn0, hD, I1⟩ => ?_) fun _ _ z => z.elim
  subst ef
  refine seg_execs_cons (seg_While fun p => ?_)
  refine loop _ _ p (fun s₀ s' hr => ?_) L0.length s s1 s0 pins none _ l none [v] [d0] _ ga hn0 I1 upd_same (.cons hv .nil) (Nat.le_refl _) (by rw [Nat.sub_self, List.drop_zero]; exact hL.symm)
  exact seg_execs_nil (env := G.env) (seg_end (.ok (.ret .none)) hr)
end

/-! ### next of an enumerate over a generator -/
/-- it may be woken again, if there is still something due -/
def goesN (M : Model) (A : Around) (R : GenEnd) (Y : Protocol) : Nat → GenState → Resume → Shared → Prop
  | 0, _, _, _ => False
  | m + 1, gs, r, s => gs.Goes M A R Y m r s
theorem resume_asleep {M : Model} {A : Around} {R : GenEnd} {Y : Protocol} {n : Nat} {E : Value → Shared → Prop} {s : Shared} {g : Nat} {gs : GenState} {r : Resume} {l : List Value} {α : Type} {k : GenResult → Sem α} {Q : α → Shared → Prop} (hg : s.gens[g]? = some gs)
    (hgo : gs.Goes M A R Y n r (s.setGen g .running)) (hR : ∀ x s₁, R n (s.setGen g .running) x s₁ → wpAny M A (k (End.ret x).result) Q E (s₁.setGen g .finished))
    (hY : ∀ v s₁ gs', sleeps gs' → gs'.bare = true → Y (n - 1) (s.setGen g .running) v s₁ (goesN M A R Y n gs') → wpAny M A (k (.yielded v)) Q E (s₁.setGen g gs')) : wpAny M A (.resume g r l k) Q E s := by
  intro Γ p hΓ
  rw [Sem.wp_resume]
  have fin : ∀ e₁ s₁, SegEnd R Y n (Seg.next M A R Y n) (s.setGen g .running) e₁ s₁ → e₁.quiet = true ∧ Sem.wp M Γ (k e₁.result) (fun a _ s' => Q a s') (fun e _ s' => E e s') p (s₁.setGen g e₁.genState) := fun e₁ s₁ he => by
    cases e₁ with
    | ret x => exact ⟨rfl, hR x s₁ he Γ p hΓ⟩
    | susp v g₀ l₀ k₀ c₀ p₀ fs₀ =>
      refine ⟨he.1, hY v s₁ (End.susp v g₀ l₀ k₀ c₀ p₀ fs₀).genState trivial (End.bare_of_quiet he.1) ?_ Γ p hΓ⟩
      cases n with
      | zero => exact he.2
      | succ m => exact he.2
  cases gs with
  | fresh c =>
    obtain ⟨rfl, hs⟩ := hgo
    obtain ⟨e₁, s₁, hr, he⟩ := seg_iff.mp hs (Γ.wake c p) p rfl (hΓ.wake c p)
    exact ⟨_, _, by unfold Wakes; rw [hg]; exact ⟨e₁, s₁, hr, (fin e₁ s₁ he).1, rfl, rfl⟩, (fin e₁ s₁ he).2⟩
  | suspended k₀ l₀ c₀ p₀ fs₀ cl =>
    obtain ⟨e₁, s₁, hr, he⟩ := seg_iff.mp hgo (Γ.wake c₀ p) p₀ rfl (hΓ.wake c₀ p)
    exact ⟨_, _, by unfold Wakes; rw [hg]; exact ⟨e₁, s₁, hr, (fin e₁ s₁ he).1, rfl, rfl⟩, (fin e₁ s₁ he).2⟩
  | running => exact hgo.elim
  | finished => exact hgo.elim
section
variable {P : Program} {w : World} {A : Around} {E : Value → Shared → Prop} {s : Shared}
theorem nextOf_gen {a : Addr} {g n : Nat} {gs : GenState} {R : GenEnd} {Y : Protocol} {Q : Value → Shared → Prop} (hh : A.handled = none) (hl : s.heap.NoLimit) (hroom : A.depth < recursionLimit) (hg : s.heap.IsGen a g) (hgs : s.gens[g]? = some gs)
    (hgo : gs.Goes (model P w) A.in1 R Y n (.send .none) (s.setGen g .running))
    (hY : ∀ v s₁ gs', sleeps gs' → gs'.bare = true → Y (n - 1) (s.setGen g .running) v s₁ (goesN (model P w) A.in1 R Y n gs') → Q v (s₁.setGen g gs'))
    (hR : ∀ r s₁, R n (s.setGen g .running) r s₁ → r = .ok (.ret .none) ∧ ∀ h' e, (∀ b o, s₁.heap.get? b = some o → h'.get? b = some o) → (∃ o, h'.get? e = some o ∧ o.cls = .type "StopIteration") → E (.ref e) { s₁.setGen g .finished with heap := h' }) :
    wpAny (model P w) A (Builtin.SmallTypes.nextOf (.ref a)) Q E s := by
  unfold Builtin.SmallTypes.nextOf
  refine wpAny_bind (wpAny_callSpecial?_slot (name := Str.ofString "__next__") hg.typeIs slot_gen_next (wpAny_call_entry slot_gen_next hg.typeIs entry_gen_next ?_ (args_gen_next _)))
  show wpAny _ A.in1 (Builtin.Generator.genWake (.ref a) (.send .none)) _ _ s
  unfold Builtin.Generator.genWake
  refine wpAny_bind (wpAny_holding (wpAny_genNumber hg (wpAny_bind (wpAny_genState hgs ?_))))
  have body : ∀ {k : GenResult → Sem PySem.Fin} {Q' : PySem.Fin → Shared → Prop}, (∀ v s₁, Q v s₁ → wpAny (model P w) A.in1 (k (.yielded v)) Q' E s₁) → (∀ s₁ : Shared, (∀ (h' : Heap) (e : Addr), (∀ b o, s₁.heap.get? b = some o → h'.get? b = some o) → (∃ o, h'.get? e = some o ∧ o.cls = .type "StopIteration") → E (.ref e) { s₁.setGen g .finished with heap := h' }) → wpAny (model P w) A.in1 (k (.returned .none)) Q' E (s₁.setGen g .finished)) →
      wpAny (model P w) A.in1 (.resume g (.send .none) [] k) Q' E s := fun {k Q'} h1 h2 => resume_asleep hgs hgo (fun r s₁ hr => by
    obtain ⟨er, hE⟩ := hR r s₁ hr
    subst er
    exact h2 s₁ hE) fun v s₁ gs' hs hb hv => h1 v _ (hY v s₁ gs' hs hb hv)
  have stop : ∀ {Q' : PySem.Fin → Shared → Prop} (s₁ : Shared), (∀ (h' : Heap) (e : Addr), (∀ b o, s₁.heap.get? b = some o → h'.get? b = some o) → (∃ o, h'.get? e = some o ∧ o.cls = .type "StopIteration") → E (.ref e) { s₁.setGen g .finished with heap := h' }) →
      ∀ {f : PUnit → Sem PySem.Fin}, wpAny (model P w) A.in1 (newExc (.type "StopIteration") [] >>= fun e => raiseNew e >>= f) Q' E (s₁.setGen g .finished) := fun {Q'} s₁ hE f => by
    simp only [newExc, newTuple]
    refine wpAny_bind (wpAny_bind (wpAny_newObj_type (wpAny_bind (m := firstArgMember _ _) (wpAny_of_eq (a := Value.none) (by first | rfl | (simp only [firstArgMember]; rfl)) (wpAny_newObj_type ?_ (by size_fits)))) (by size_fits)))
    simp only [raiseNew]
    refine wpAny_bind (wpAny_bind (wpAny_handled ?_))
    rw [show A.in1.handled = none from hh]
    exact wpAny_throw (hE _ _ (fun b o hb => Heap.get?_push_of_some _ (Heap.get?_push_of_some _ hb)) ⟨_, Heap.get?_push_size _ rfl, rfl⟩)
  cases gs with
  | running => exact hgo.elim
  | finished => exact hgo.elim
  | fresh c => exact wpAny_bind (wpAny_roomToWake hl hroom (body (fun v s₁ hv => wpAny_pure ⟨v, rfl, wpAny_pure hv⟩) fun s₁ h => stop s₁ h))
  | suspended k0 l0 c0 p0 fs0 cl => exact wpAny_bind (wpAny_roomToWake hl hroom (body (fun v s₁ hv => wpAny_pure ⟨v, rfl, wpAny_pure hv⟩) fun s₁ h => stop s₁ h))
/-- a pair comes out of the enumerate at e, whatever hands out its items -/
theorem enum_next_any {e it : Addr} {i : Nat} {old : Value} {Q : Value → Shared → Prop} (he : IsEnum s.heap e it i old)
    (hn : wpAny (model P w) A (Builtin.SmallTypes.nextOf (.ref it)) (fun x s1 => IsEnum s1.heap e it i old ∧ ∀ h', IsEnumOut h' e it ((i : Int) + 1) x s1.heap.objs.size → h'.get? s1.heap.objs.size = some { cls := .type "tuple", data := .seq #[.int i s1.toks, x] } →
      (∀ b o, b ≠ e → s1.heap.get? b = some o → h'.get? b = some o) → Q (.ref s1.heap.objs.size) { s1 with heap := h', toks := s1.toks + 1 }) (fun x s1 => E x s1) s) :
    wpAny (model P w) A (Builtin.«enumerate.__next__» ⟨[.ref e], []⟩) (fun fin s' => ∃ v, fin = .done (.ret v) ∧ Q v s') E s := by
  show wpAny _ _ (field (.ref e) 2 >>= _) _ _ _
  refine wpAny_bind (wpAny_field he rfl (x := .ref it) rfl (wpAny_bind (wpAny_mono hn (fun x s1 hs => ?_) fun _ _ z => z)))
  obtain ⟨he1, hQ⟩ := hs
  obtain ⟨hp, gs, d, tk, os⟩ := s1
  have he1 : IsEnum hp e it i old := he1
  refine wpAny_bind (wpAny_field he1 rfl (x := rawInt i) rfl ?_)
  show wpAny _ _ (field (.ref e) 4 >>= _) _ _ ⟨hp, gs, d, tk, os⟩
  refine wpAny_bind (wpAny_field he1 rfl (x := .none) rfl ?_)
  show wpAny _ _ (mkInt i >>= _) _ _ ⟨hp, gs, d, tk, os⟩
  refine wpAny_bind (wpAny_mkInt (wpAny_bind (wpAny_setField_rec he1 (by simp) fun h2 he2 hs2 => ?_)))
  have he2 : IsEnum h2 e it ((i : Int) + 1) old := he2
  refine wpAny_bind (wpAny_setField_rec he2 (by simp) fun h3 he3 hs3 => ?_)
  have he3 : IsEnum h3 e it ((i : Int) + 1) old := he3
  have hs2 : Heap.SameBut e hp h2 := hs2
  have hs3 : Heap.SameBut e h2 h3 := hs3
  show wpAny _ _ (newTuple [.int i tk, x] >>= _) _ _ ⟨h3, gs, d, tk + 1, os⟩
  refine wpAny_bind (wpAny_newTuple ?_)
  have hz : h3.objs.size = hp.objs.size := hs3.1.trans hs2.1
  have hel : e < hp.objs.size := Heap.lt_size he1
  have he4 : IsEnum (h3.push { cls := .type "tuple", data := .seq #[.int i tk, x] }) e it ((i : Int) + 1) old := Heap.get?_push_of_some _ he3
  have ht : (h3.push { cls := .type "tuple", data := .seq #[.int i tk, x] }).get? hp.objs.size = some { cls := .type "tuple", data := .seq #[.int i tk, x] } := by rw [← hz]; exact Heap.get?_push_size _ rfl
  have hk : ∀ b o, b ≠ e → hp.get? b = some o → (h3.push { cls := .type "tuple", data := .seq #[.int i tk, x] }).get? b = some o := fun b o hb q => Heap.get?_push_of_some _ ((hs3.2 b hb).trans ((hs2.2 b hb).trans q))
  generalize h3.push { cls := .type "tuple", data := .seq #[.int i tk, x] } = h4 at he4 ht hk ⊢
  show wpAny _ _ (Builtin.SmallTypes.ownedTupleIsFree (.ref e) >>= _) _ _ ⟨h4, gs, d, tk + 1, os⟩
  rw [hz]
  refine wpAny_bind ?_
  unfold Builtin.SmallTypes.ownedTupleIsFree
  refine wpAny_bind (wpAny_field he4 rfl (x := .none) rfl (wpAny_pure ?_))
  rw [if_pos rfl]
  refine wpAny_bind (wpAny_rule (wpAny_bind (wpAny_field he4 rfl (x := old) rfl (wpAny_bind (wpAny_setField_rec he4 (by simp) fun h5 he5 hs5 => ?_)))))
  have he5 : IsEnum h5 e it ((i : Int) + 1) x := he5
  have hs5 : Heap.SameBut e h4 h5 := hs5
  show wpAny _ _ (Builtin.SmallTypes.ownedTupleHandOut (.ref e) (.ref hp.objs.size) >>= _) _ _ ⟨h5, gs, d, tk + 1, os⟩
  unfold Builtin.SmallTypes.ownedTupleHandOut
  refine wpAny_bind (wpAny_bind (wpAny_setField_rec he5 (by simp) fun h6 he6 hs6 => ?_))
  have he6 : IsEnumOut h6 e it ((i : Int) + 1) x hp.objs.size := he6
  have hs6 : Heap.SameBut e h5 h6 := hs6
  refine wpAny_setField_rec he6 (by simp) fun h7 he7 hs7 => ?_
  have he7 : IsEnumOut h7 e it ((i : Int) + 1) x hp.objs.size := he7
  have hs7 : Heap.SameBut e h6 h7 := hs7
  have up : ∀ b o, b ≠ e → h4.get? b = some o → h7.get? b = some o := fun b o hb q => (hs7.2 b hb).trans ((hs6.2 b hb).trans ((hs5.2 b hb).trans q))
  exact wpAny_bind (wpAny_letGo (wpAny_pure ⟨_, rfl, hQ h7 he7 (up _ _ (Nat.ne_of_gt hel) ht) fun b o hb q => up b o hb (hk b o hb q)⟩))
/-- .. or its end -/
theorem enum_next_end {e it : Addr} {i : Int} {old : Value} {Q : Option Value → Shared → Prop} (he : IsEnum s.heap e it i old)
    (hn : wpAny (model P w) A.in1 (Builtin.SmallTypes.nextOf (.ref it)) (fun _ _ => False) (fun x s1 => (∃ a o, x = .ref a ∧ s1.heap.get? a = some o ∧ o.cls = .type "StopIteration") ∧ Q none s1) s) : wpAny (model P w) A (pyNext (.ref e)) Q E s := by
  have hT : s.TypeIs (.ref e) "enumerate" := ⟨_, he, rfl⟩
  unfold pyNext
  refine wpAny_bind (wpAny_attempt (wpAny_callSpecial?_slot (name := Str.ofString "__next__") hT F.slot_enumerate_next (wpAny_call_entry F.slot_enumerate_next hT F.entry_enumerate_next ?_ (F.args_enumerate_next_1 _))))
  show wpAny _ _ (field (.ref e) 2 >>= _) _ _ _
  refine wpAny_bind (wpAny_field he rfl (x := .ref it) rfl (wpAny_bind (wpAny_mono hn (fun _ _ z => z.elim) fun x s1 ⟨⟨a, o, ex, ho, hc⟩, q⟩ => ?_)))
  subst ex
  exact wpAny_bind (wpAny_isInstance (T := "StopIteration") (b := true) ⟨o, ho, hc⟩ isSubtype_stop (wpAny_pure q))
theorem enum_next_item {e it : Addr} {i : Nat} {old : Value} {Q : Option Value → Shared → Prop} (he : IsEnum s.heap e it i old)
    (hn : wpAny (model P w) A.in1 (Builtin.SmallTypes.nextOf (.ref it)) (fun x s1 => IsEnum s1.heap e it i old ∧ ∀ h', IsEnumOut h' e it ((i : Int) + 1) x s1.heap.objs.size → h'.get? s1.heap.objs.size = some { cls := .type "tuple", data := .seq #[.int i s1.toks, x] } →
      (∀ b o, b ≠ e → s1.heap.get? b = some o → h'.get? b = some o) → Q (some (.ref s1.heap.objs.size)) { s1 with heap := h', toks := s1.toks + 1 }) (fun _ _ => False) s) : wpAny (model P w) A (pyNext (.ref e)) Q E s := by
  have hT : s.TypeIs (.ref e) "enumerate" := ⟨_, he, rfl⟩
  unfold pyNext
  exact wpAny_bind (wpAny_attempt (wpAny_callSpecial?_slot (name := Str.ofString "__next__") hT F.slot_enumerate_next (wpAny_call_entry F.slot_enumerate_next hT F.entry_enumerate_next
    (enum_next_any he (wpAny_mono hn (fun x s1 ⟨h1, h2⟩ => ⟨h1, fun h' a b c => wpAny_pure (h2 h' a b c)⟩) fun _ _ z => z.elim)) (F.args_enumerate_next_1 _))))
end
set_option maxHeartbeats 8000000 in
theorem meets_enumG (a g : Nat) : Meets (Builtin.«enumerate.__new__» ⟨[.type "enumerate", .ref a], []⟩) (fun _ R s => s.heap.IsGen a g ∧
    R (.ok (.ret (.ref s.heap.objs.size))) { s with heap := s.heap.push { cls := .type "enumerate", data := .fields #[.none, .bool false, .ref a, rawInt 0, .none, .none] } }) :=
  .of_wp fun prog w A R s h => by
    obtain ⟨hp, gs, d, tk, os⟩ := s
    obtain ⟨h1, h⟩ := h
    have hsub := sub_enumerate
    have q1 : ∀ {A' : Around} {E : Value → Shared → Prop} {Q : Value → Shared → Prop}, Q (.ref a) ⟨hp, gs, d, tk, os⟩ → wpAny (model prog w) A' (pyIter (.ref a)) Q E ⟨hp, gs, d, tk, os⟩ := fun q => wpAny_pyIter_gen (s := ⟨hp, gs, d, tk, os⟩) h1 q
    wp_walk using q1
    refine wpAny_stack_any fun st => wpAny_pure ?_
    split
    · rename_i c _ _ _ _ _
      cases (c == Value.type "enumerate") <;> (wp_walk using q1; exact ⟨_, rfl, h⟩)
    · wp_walk using q1
      exact ⟨_, rfl, h⟩
theorem call_enumG {prog : Program} {w : World} {A : Around} {E : Value → Shared → Prop} {s : Shared} {a g : Nat} {Q : Value → Shared → Prop} (h1 : s.heap.IsGen a g)
    (h : ∀ h', IsEnum h' s.heap.objs.size a 0 .none → (∀ b o, s.heap.get? b = some o → h'.get? b = some o) → Q (.ref s.heap.objs.size) { s with heap := h' }) : wpAny (model prog w) A (call (.type "enumerate") [.ref a]) Q E s := by
  refine callType_new F.called_enumerate (by decide) (F.typeCall_enumerate_1 _) (F.newCall_enumerate_1 _) (fun obj => F.args_object_init_2 obj _) F.entry_enumerate_new (meets_enumG a g) ⟨h1, ?_⟩
  exact ⟨⟨_, Heap.get?_push_size s.heap rfl, rfl⟩, h _ (Heap.get?_push_size s.heap rfl) fun b o x => Heap.get?_push_of_some _ x⟩

/-! ### for index, found in enumerate(walk(value)) -/
section
variable {X : Cx} {pins : List (Addr × Obj)} {σ : St} {H : Hp} {s : Shared}
theorem inv_table {G' : Array GenState} (I : Inv X pins σ H s) (h : PyProof.Rows.AllBare G') : Inv X pins σ H { s with gens := G' } :=
  ⟨I.ok, I.os, h, I.base, I.loc, I.cell, I.free, I.freeC, I.pin, I.hok, I.len⟩
end
/-- the tuples -/
def tupsOf (H : Hp) : Hp := fun b => match H b with
  | some (.tup xs) => some (.tup xs)
  | _ => none
theorem tupsOf_at {H : Hp} {b : Addr} {o : HO} (h : tupsOf H b = some o) : ∃ xs, o = .tup xs ∧ H b = some (.tup xs) := by
  unfold tupsOf at h
  split at h
  · rename_i xs e
    cases h
    exact ⟨xs, rfl, e⟩
  · cases h
theorem tupsOf_tup {H : Hp} {b : Addr} {xs : List V} (h : H b = some (.tup xs)) : tupsOf H b = some (.tup xs) := by
  unfold tupsOf
  rw [h]
theorem tupsOf_none {H : Hp} {b : Addr} (h : H b = none) : tupsOf H b = none := by
  unfold tupsOf
  rw [h]
/-- the generator that a call of it makes in the frame X, the state s -/
def gpOf (X : Cx) (N : List Str) (qual : Str) (scope : Scope) (f : Addr) (cd : Value) (H : Hp) (s : Shared) : GP := { X := X, Aw := X.A.in1.in1, N := N, qual := qual, scope := scope, f := f, cd := cd, L := s.heap.objs.size, n0 := s.heap.objs.size, D := tupsOf H }
section
variable {X : Cx} {pins : List (Addr × Obj)} {σ : St} {H : Hp} {s : Shared} {x qual : Str} {params : Arguments} {body : List Stmt} {scope : Scope} {f : Addr} {fd : FuncData} {N ps : List Str}
theorem gp_good (I : Inv X pins σ H s) (hnc : ∀ n, PySem.cellsFrom n scope.names [] = []) {cd : Value} : (gpOf X N qual scope f cd H s).Good where
  tups := fun b o e => by
    obtain ⟨xs, rfl, h⟩ := tupsOf_at e
    exact ⟨⟨xs, rfl⟩, I.hok.lt h⟩
  le := Nat.le_refl _
  nc := fun y c e => by
    have e : (PySem.cellsFrom (s.heap.objs.size + 1) scope.names []).lookup y = some c := e
    rw [hnc] at e
    cases e
  lt := I.lt
  ltc := fun y c e => by
    obtain ⟨v, o, ho, _⟩ := I.cell y c e
    exact Heap.lt_size ho
  s0 := I.sz
/-- a call of it -/
theorem gen_made {k : Nat} (F : FunD X.K x qual params body scope [] [] f fd) (S : GScope N ps scope) (hnc : ∀ n, PySem.cellsFrom n scope.names [] = []) (hr : Room (k + 1) X.A)
    (hb : ∀ (kV doc pm : Value) (an : Option Addr) (cdv ct : Value) (us : List Value), us.length = ps.length → bindArgs (PySem.W.fnOf x qual params body scope .none kV doc pm an cdv ct) ⟨us, []⟩ = pure (ps.zip us))
    {vs : List V} {us : List Value} {Q : Value → Shared → Prop} {E : Value → Shared → Prop} (I : Inv X pins σ H s) (r : Vals vs us) (hl : vs.length = ps.length)
    (h : ∀ (a g : Nat) (cdv : Value) (s' : Shared), Inv X pins σ H s' → s.heap.objs.size ≤ a → a ≠ s.heap.objs.size → s'.heap.IsGen a g → s'.gens[g]? = some (.fresh (.func body (PyProof.Rows.envOfC qual scope s.heap.objs.size f cdv))) → (∀ b o, s.heap.get? b = some o → s'.heap.get? b = some o) → s.heap.objs.size < s'.heap.objs.size →
      GSt (gpOf X N qual scope f cdv H s) none (start N vs) s' → Q (.ref a) s') : wpAny (model X.prog X.w) X.A (call (.ref f) us) Q E s := by
  have hul : us.length = ps.length := by rw [← r.length]; exact hl
  have hbind : BindsTo s fd ⟨us, []⟩ (ps.zip us) := F.bindsA hb s us hul
  obtain ⟨oc, od, dV, kV, doc, pm, an, cdv, ct, osl, rfl, lk, hcd, dl, _⟩ := F.ex
  have e0 := I.env0
  have lim : s.heap.NoLimit := I.nolimit
  have hkind : ∀ y ∈ ps.zip us, scope.names.lookup y.1 = some .local ∨ (scope.names.lookup y.1 = some .cell ∧ ((PySem.cellsFrom (s.heap.objs.size + 1) scope.names []).lookup y.1).isSome = true) := fun ⟨n, v⟩ hy => by
    rcases S.par n (List.of_mem_zip hy).1 with q | q
    · exact .inl q
    · exact .inr ⟨q, PySem.W.cellsFrom_some _ _ _ (.inl q)⟩
  refine wpAny_call (codeAny_call_generator hr.depth (I.kIn _ _ lk) rfl S.co S.gen rfl (PySem.W.codeRec_of I.kIn hcd) (hbind _ _ _ _ (wpAny_newFunctionEnv_cells S.kind hkind fun env he s1 x => ?_)))
  subst he
  refine ⟨lim.keeps x.toInCall.keep, ?_⟩
  obtain ⟨h1, tk, es1, hk1⟩ := x.done
  have lt1 : s.heap.objs.size < s1.heap.objs.size := x.toInCall.ns.lt
  have kp1 : ∀ b o, s.heap.get? b = some o → s1.heap.get? b = some o := x.toInCall.keep
  have gd : (gpOf X N qual scope f cdv H s).Good := gp_good I hnc
  have Dn : ∀ b, H b = none → tupsOf H b = none := fun b q => tupsOf_none q
  -- its own frame
  have J := inv_startG (mg := X.mg) (base := X.base) (outer := X.stack) (N := N) (qual := qual) (f := f) (cd := cdv) (A := X.A.in1.in1) (E := fun _ _ _ => False) S (show X.A.in1.in1.handled = none from hr.hd) (e0.in1.in1) hl r x
  have main : ∀ (go : Obj) (nm qn : Value) (tk2 : Nat), go.cls = .type "generator" → go.data = .fields #[.int s1.gens.size 0, nm, qn] → go.slots = #[] → (∀ h : Heap, (h.push go).get? h.objs.size = some go) →
      Q (.ref s1.heap.objs.size) { s1 with gens := s1.gens.push (.fresh (.func body (PyProof.Rows.envOfC qual scope s.heap.objs.size f cdv))), toks := tk2, heap := s1.heap.push go } := fun go nm qn tk2 q1 q2 q3 q4 => by
    have kp2 : ∀ b o, s1.heap.get? b = some o → (s1.heap.push go).get? b = some o := fun b o e => Heap.get?_push_of_some _ e
    have bare2 : PyProof.Rows.AllBare (s1.gens.push (.fresh (.func body (PyProof.Rows.envOfC qual scope s.heap.objs.size f cdv)))) := PyProof.Rows.AllBare.push J.bare rfl
    have os1 : s1.os = s.os := by rw [es1]
    refine h _ s1.gens.size cdv _ ?_ (Nat.le_of_lt lt1) (Nat.ne_of_gt lt1) ⟨go, nm, qn, q4 _, q1, q2, q3⟩ (Array.getElem?_push_size ..) (fun b o e => kp2 b o (kp1 b o e)) (by show _ < (s1.heap.push go).objs.size; rw [Heap.size_push]; omega) ?_
    · exact I.call' (H' := H) (ch := []) os1 (Un.kept fun b o e => kp2 b o (kp1 b o e)) (I.hok.kept fun b o e => kp2 b o (kp1 b o e)) bare2 fun b z => by simp at z
    · refine ⟨s, rfl, ⟨⟨J.ok.mod, J.ok.kind, rfl, rfl, J.ok.above, J.ok.inj, J.ok.has, J.ok.cab, J.ok.hd, J.ok.frames, J.ok.stk, fun b hb => absurd hb (by simp [GP.cx]), fun b o e => ⟨(J.ok.bs b o e).1, Dn b (J.ok.bs b o e).2⟩, J.ok.bsz, fun b o e => by simp [GP.cx], fun b hb => absurd hb (by simp [GP.cx]), J.ok.funs, fun b hb => Dn b (J.ok.frf b hb)⟩,
        os1, bare2, Un.kept fun b o e => kp2 b o (kp1 b o e), ?_, fun y c e => absurd e (gd.nc y c), ?_, fun y c e => absurd e (gd.nc y c), fun p hp => absurd (show p ∈ ([] : List (Addr × Obj)) from hp) (by simp), fun b o e => ?_, J.len⟩, fun l hl => absurd hl (by simp [GP.ls])⟩
      · obtain ⟨m, ⟨o, es, ep, ho, rr⟩, q⟩ := J.loc
        refine ⟨m, ⟨o, es, ep, kp2 _ o ho, rr⟩, fun i y v e1 e2 e3 => ?_⟩
        obtain ⟨u, r1, lk'⟩ := q i y v e1 e2 e3
        refine ⟨u, r1, ?_⟩
        rcases lk' with lk' | ⟨_, c, e, _⟩
        · exact .inl lk'
        · exact absurd e (gd.nc y c)
      · exact Dn _ (I.hok.fresh (Nat.le_refl _))
      · obtain ⟨xs, rfl, e2⟩ := tupsOf_at (show tupsOf H b = some o from e)
        obtain ⟨z, its, rr, ob, eb, hc⟩ := I.hok b _ e2
        exact ⟨z, its, rr, ob, kp2 b ob (kp1 b ob eb), hc⟩
  exact main _ _ _ _ rfl rfl rfl fun h => Heap.get?_push_size _ rfl
end
/-- only tuples more are tracked -/
def TupExt (H1 H2 : Hp) : Prop := ∀ b, H2 b = H1 b ∨ (H1 b = none ∧ ∃ xs, H2 b = some (.tup xs))
theorem TupExt.refl (H : Hp) : TupExt H H := fun _ => .inl rfl
theorem TupExt.put {H1 H2 : Hp} {p : Addr} {xs : List V} (h : TupExt H1 H2) (n : H2 p = none) : TupExt H1 (upd H2 p (.tup xs)) := fun b => by
  by_cases hb : b = p
  · subst hb
    rw [upd_same]
    rcases h b with e | ⟨e, _⟩
    · exact .inr ⟨e.symm.trans n, xs, rfl⟩
    · exact .inr ⟨e, xs, rfl⟩
  · rw [upd_ne hb]
    exact h b
def tForW {δ : Type} (T : Hp → V → δ → Prop) (pre : δ → List δ) (te : TE) (g : TG) (tb : TS) : TS := fun D σ H => te σ H fun v H1 => ∃ d0, T H1 v d0 ∧ (pre d0).length ≤ sizeLine ∧ ∃ Pv : Nat → St → Hp → Prop, Pv 0 σ H1 ∧ (∀ i σ2 H2, Pv i σ2 H2 → TupExt H1 H2) ∧
  (∀ i x d σ2 H2 p, (pre d0)[i]? = some d → T H1 x d → Pv i σ2 H2 → H2 p = none → g (.ref p) σ2 (upd H2 p (.tup [.int (i : Nat), x])) fun σ3 H3 => tb { D with nx := Pv (i + 1), ct := Pv (i + 1), bk := D.nx } σ3 H3) ∧ ∀ σ2 H2, Pv (pre d0).length σ2 H2 → D.nx σ2 H2
section
variable {X : Cx} {x qual : Str} {params : Arguments} {body : List Stmt} {scope : Scope} {f : Addr} {fd : FuncData} {N ps : List Str} {δ : Type} {T : Hp → V → δ → Prop} {kids pre : δ → List δ} {st1 sA sB : Stmt} {test nm e : Expr} {wp yp ep p1 p2 p3 p4 pos tpos : Pos} {elts : List Expr} {kk k : Nat} {te : TE} {g : TG} {tb : TS} {bd : List Stmt}
/-- where the loop stands -/
structure WAt (G : GP) (T : V → δ → Prop) (kids pre : δ → List δ) (v : V) (L0 : List δ) (en a gi : Nat) (pins : List (Addr × Obj)) (i : Nat) (σ : St) (H : Hp) (s : Shared) : Prop where
  inv : Inv G.X pins σ H s
  tx : TX G H
  he : H en = none
  ha : H a = none
  hL : H G.L = none
  enum : ∃ old, IsEnum s.heap en a ((i : Nat) : Int) old
  gen : s.heap.IsGen a gi
  more : ∃ gs lo σg sG, s.gens[gi]? = some gs ∧ GSt G lo σg sG ∧ (∀ o, sG.heap.get? G.L = some o → s.heap.get? G.L = some o) ∧ (∀ l ∈ GP.ls lo, ∀ o, sG.heap.get? l = some o → s.heap.get? l = some o) ∧
    ∀ s2 s0 pins, GAw G lo σg s2 s0 pins → gs.Goes (model G.X.prog G.X.w) G.Aw (WR G) (WY G T kids pre v L0) (L0.length - i) (.send .none) s2
theorem gp_fp {G : GP} {pins : List (Addr × Obj)} {σ : St} {H : Hp} {s : Shared} (gd : G.Good) (I : Inv G.X pins σ H s) (hp : ∀ p ∈ G.X.pn ++ pins, p.1 < G.n0) {b : Addr} (hb : G.n0 ≤ b) (hn : H b = none) : FpOk G.X pins H b := by
  refine ⟨hn, Nat.ne_of_gt (Nat.lt_of_lt_of_le gd.lt hb), fun z => ?_, .inr (Nat.le_trans gd.s0 hb), fun y c q => Nat.ne_of_lt (Nat.lt_of_lt_of_le (gd.ltc y c q) hb), fun p h => Nat.ne_of_lt (Nat.lt_of_lt_of_le (hp p h) hb)⟩
  obtain ⟨_, o, ho, _⟩ := I.ok.funs.mem z
  exact absurd (Nat.lt_of_lt_of_le (Heap.lt_size ho) (Nat.le_trans gd.s0 hb)) (Nat.lt_irrefl _)
/-- behind a run of the generator -/
theorem WAt.ran {G : GP} {TD : V → δ → Prop} {v : V} {L0 : List δ} {en a gi : Nat} {pins : List (Addr × Obj)} {i : Nat} {σ : St} {H : Hp} {s s1 : Shared} {ls : List Addr} (gd : G.Good) (w : WAt G TD kids pre v L0 en a gi pins i σ H s) (hp : ∀ p ∈ G.X.pn ++ pins, p.1 < G.n0)
    (h1 : G.n0 ≤ en) (h2 : G.n0 ≤ a) (h3 : en ≠ G.L) (h4 : a ≠ G.L) (lo : LsOk G ls (s.setGen gi .running)) (kp : KeepG G ls (s.setGen gi .running) s1) : Inv G.X pins σ H s1 ∧ (∀ old, IsEnum s.heap en a ((i : Nat) : Int) old → IsEnum s1.heap en a ((i : Nat) : Int) old) ∧ s1.heap.IsGen a gi ∧ ∀ l ∈ ls, H l = none := by
  have nl : ∀ l ∈ ls, H l = none := fun l hl => by
    obtain ⟨q1, _, o, ho, hc⟩ := lo l hl
    have ho : s.heap.get? l = some o := ho
    cases q : H l with
    | none => rfl
    | some u =>
      rcases w.tx.out l u q with ⟨z, _⟩ | ⟨_, xs, rfl⟩
      · exact absurd z (Nat.not_lt.mpr q1)
      · obtain ⟨_, _, _, o2, ho2, hc2, _⟩ := w.inv.hok l _ q
        rw [ho] at ho2
        cases ho2
        rw [hc] at hc2
        injection hc2 with z
        exact absurd z (by decide)
  obtain ⟨old, hen⟩ := w.enum
  obtain ⟨oa, nmv, qn, hoa, hca, hda, hsa⟩ := w.gen
  have Ir : Inv G.X pins σ H (s.setGen gi .running) := inv_table w.inv (allBare_setGen w.inv.bare rfl)
  have nen : en ∉ ls := fun z => by
    obtain ⟨_, _, o, ho, hc⟩ := lo en z
    have ho : s.heap.get? en = some o := ho
    rw [hen] at ho
    cases ho
    injection hc with z
    exact absurd z (by decide)
  have na : a ∉ ls := fun z => by
    obtain ⟨_, _, o, ho, hc⟩ := lo a z
    have ho : s.heap.get? a = some o := ho
    rw [hoa] at ho
    cases ho
    rw [hca] at hc
    injection hc with z
    exact absurd z (by decide)
  refine ⟨kp.back gd Ir w.tx nl w.hL fun p h => ⟨Nat.ne_of_lt (Nat.lt_of_lt_of_le (hp p h) gd.le), fun z => absurd (hp p h) (Nat.not_lt.mpr (lo p.1 z).1)⟩, (fun old' hen' => kp.high en _ h1 h3 nen hen' fun v z => nomatch z), ⟨oa, nmv, qn, kp.high a oa h2 h4 na hoa (fun v z => by rw [hda] at z; cases z), hca, hda, hsa⟩, nl⟩
/-- the rule -/
theorem ps_forW {G : GP} {v : V} {d0 : δ} {pins : List (Addr × Obj)} {σ : St} {H : Hp} {s : Shared} {D : Ends} {en a gi : Nat} {Pv : Nat → St → Hp → Prop} (gd : G.Good) (hX : ∀ y z, ¬ G.X.xe y z) (hc : G.X.calm = true) (hd : G.X.A.handled = none) (hroom : G.X.A.in1.depth < recursionLimit) (hA : G.Aw = G.X.A.in1.in1)
    (hp : ∀ p ∈ G.X.pn ++ pins, p.1 < G.n0) (h1 : G.n0 ≤ en) (h2 : G.n0 ≤ a) (h3 : en ≠ G.L) (h4 : a ≠ G.L) (h5 : en ≠ a)
    (hg : PG G.X (.Tuple elts kk tpos) g) (hb : PSs G.X bd tb) (st : WAt G (T G.D) kids pre v (pre d0) en a gi pins 0 σ H s) (p0 : Pv 0 σ H) (tx : ∀ i σ2 H2, Pv i σ2 H2 → TX G H2)
    (step : ∀ i x d σ2 H2 p, (pre d0)[i]? = some d → T G.D x d → Pv i σ2 H2 → H2 p = none → g (.ref p) σ2 (upd H2 p (.tup [.int (i : Nat), x])) fun σ3 H3 => tb { D with nx := Pv (i + 1), ct := Pv (i + 1), bk := D.nx } σ3 H3) (done : ∀ σ2 H2, Pv (pre d0).length σ2 H2 → D.nx σ2 H2) :
    codeAny (model G.X.prog G.X.w) G.X.A (.forLoop (.Tuple elts kk tpos) (.ref en) bd [] G.X.env) (fun r s' => match r with | .ok f => SP G.X pins D f s' | .error e => cameBackBy (model G.X.prog G.X.w) G.X.A G.X.env G.X.xe e s') s := by
  have never : PassesOwn (model G.X.prog G.X.w) G.X.A G.X.env G.X.xe := fun y z h => (hX y z h).elim
  have fp := fun {σ' : St} {H' : Hp} {s' : Shared} {b : Addr} (I : Inv G.X pins σ' H' s') (hb : G.n0 ≤ b) (hn : H' b = none) => gp_fp gd I hp hb hn
  refine codeAny_forLoop_any (fun n s' => ∃ i σ' H', WAt G (T G.D) kids pre v (pre d0) en a gi pins i σ' H' s' ∧ n = (pre d0).length - i ∧ i ≤ (pre d0).length ∧ Pv i σ' H') ?_ (pre d0).length ⟨0, σ, H, st, rfl, Nat.zero_le _, p0⟩
  rintro n s3 ⟨i, σ3, H3, st3, rfl, hi, p3⟩
  obtain ⟨old, hen⟩ := st3.enum
  obtain ⟨gs, lo, σg, sG, hgs, hst, kL, kl, goes⟩ := st3.more
  have Ir : Inv G.X pins σ3 H3 (s3.setGen gi .running) := inv_table st3.inv (allBare_setGen st3.inv.bare rfl)
  obtain ⟨t0, pins', aw⟩ := hst.wake gd Ir st3.tx kL kl
  have hgo := goes _ _ _ aw
  rw [hA] at hgo
  have ran := fun {ls : List Addr} {s1 : Shared} (q1 : LsOk G ls (s3.setGen gi .running)) (q2 : KeepG G ls (s3.setGen gi .running) s1) => st3.ran gd hp h1 h2 h3 h4 q1 q2
  by_cases hlt : i < (pre d0).length
  · obtain ⟨m, em⟩ : ∃ m, (pre d0).length - i = m + 1 := ⟨(pre d0).length - i - 1, by omega⟩
    rw [em] at hgo
    refine wpAny_passesOwn never (enum_next_item hen (GenW.wpAny_gsz (n := gi + 1) (Array.getElem?_eq_some_iff.mp hgs).1 (nextOf_gen (A := G.X.A.in1) hd Ir.nolimit hroom st3.gen hgs hgo (fun u s1 gs' hsl hb' hy => ?_) fun r s1 hr => by
      obtain ⟨_, z, _⟩ := hr
      cases z)))
    obtain ⟨l, ws, x, ds, d, ls, ru, _, tx1, _, eL, q1, q2, hl0, q3, q4⟩ := hy
    intro hsize
    obtain ⟨I1, hek, hge1, nl⟩ := ran q1 q2
    have he2 := hek old hen
    have hx : (pre d0)[i]? = some d := by
      have e2 : (pre d0).length - (m + 1) = i := by omega
      rw [show m + 1 - 1 = m from rfl, e2] at eL
      have q := congrArg (fun z : List δ => z[0]?) eL
      simp only [List.getElem?_cons_zero, List.getElem?_drop, Nat.add_zero] at q
      exact q.symm
    refine ⟨he2, fun h' ho hT hk => ?_⟩
    refine wpAny_passesOwn never (wpAny_letOwnedTupleGo_enum (s := { s1.setGen gi gs' with heap := h', toks := s1.toks + 1 }) ho fun h2' he' sb => ?_)
    have I4 : Inv G.X pins σ3 H3 (s1.setGen gi gs') := inv_table I1 (allBare_setGen I1.bare hb')
    have hel : en < s1.heap.objs.size := Heap.lt_size he2
    have keep : ∀ b o, b ≠ en → s1.heap.get? b = some o → h2'.get? b = some o := fun b o hb q => (sb.2 b hb).trans (hk b o hb q)
    have hT2 : h2'.get? s1.heap.objs.size = some { cls := .type "tuple", data := .seq #[.int i s1.toks, u] } := (sb.2 _ (Nat.ne_of_gt hel)).trans hT
    have fresh : H3 s1.heap.objs.size = none := I1.hok.fresh (Nat.le_refl _)
    have new : ObjOk G.X.prog G.X.w (upd H3 s1.heap.objs.size (.tup [.int (i : Nat), x])) h2' s1.heap.objs.size (.tup [.int (i : Nat), x]) := ⟨by show 2 ≤ sizeLine; decide, [.int i s1.toks, u], .cons ⟨_, rfl⟩ (.cons ru .nil), ⟨_, hT2, rfl, _, rfl⟩⟩
    have I6 : Inv G.X pins σ3 (upd H3 s1.heap.objs.size (.tup [.int (i : Nat), x])) { s1.setGen gi gs' with heap := h2', toks := s1.toks + 1 } :=
      I4.turnedNew (ch := [en]) (fun b ob hb q => keep b ob (fun z => hb (by simp [z])) q) (fun b hb => by rw [show b = en by simpa using hb]; exact fp I4 h1 st3.he) (Nat.le_refl _) new
    -- the four that stay
    have low4 : ∀ b ∈ [en, a, G.L, l], G.n0 ≤ b := fun b hb => by
      simp only [List.mem_cons, List.not_mem_nil, or_false] at hb
      rcases hb with rfl | rfl | rfl | rfl
      · exact h1
      · exact h2
      · exact gd.le
      · exact hl0
    obtain ⟨sg0, hz0, JG, hlG⟩ := id q3
    obtain ⟨mL, ⟨oL, esL, epL, hoL, hdL, _⟩, _⟩ := JG.loc
    have hoL : s1.heap.get? G.L = some oL := hoL
    obtain ⟨hzl, itl, nl2, rl, hol⟩ := JG.hok l (.lst ws) upd_same
    have nL : G.L ≠ l := fun z => by
      rw [z, hol] at hoL
      cases hoL
      cases hdL
    have hen_l : en ≠ l := fun z => by
      rw [← z, show s1.heap.get? en = _ from he2] at hol
      have q := congrArg Obj.cls (Option.some.inj hol)
      injection q with q
      exact absurd q (by decide)
    obtain ⟨oa, nmv, qn, hoa, hca, hda, hsa⟩ := hge1
    have ha_l : a ≠ l := fun z => by
      rw [← z, hoa] at hol
      cases hol
      cases hda
    have nolT : ∀ b, b < s1.heap.objs.size → b ≠ s1.heap.objs.size := fun b hb => Nat.ne_of_lt hb
    have Hl : H3 l = none := by
      cases q : H3 l with
      | none => rfl
      | some z =>
        rcases st3.tx.out l z q with ⟨y, _⟩ | ⟨_, xs, rfl⟩
        · exact absurd y (Nat.not_lt.mpr hl0)
        · obtain ⟨_, _, _, o2, ho2, hc2, _⟩ := I1.hok l _ q
          rw [hol] at ho2
          cases ho2
          injection hc2 with z
          exact absurd z (by decide)
    have none4 : ∀ b ∈ [en, a, G.L, l], upd H3 s1.heap.objs.size (.tup [.int (i : Nat), x]) b = none := fun b hb => by
      simp only [List.mem_cons, List.not_mem_nil, or_false] at hb
      rcases hb with rfl | rfl | rfl | rfl
      · rw [upd_ne (nolT _ hel)]; exact st3.he
      · rw [upd_ne (nolT _ (Heap.lt_size hoa))]; exact st3.ha
      · rw [upd_ne (nolT _ (Heap.lt_size hoL))]; exact st3.hL
      · rw [upd_ne (nolT _ (Heap.lt_size hol))]; exact Hl
    have e4 : h2'.get? en = some { cls := .type "enumerate", dict := none, data := .fields #[.none, .bool false, .ref a, rawInt ((i : Int) + 1), .none, u], slots := #[] } := he'
    have a4 : h2'.get? a = some oa := keep a oa (Ne.symm h5) hoa
    have L4 : h2'.get? G.L = some oL := keep G.L oL (Ne.symm h3) hoL
    have l4 : h2'.get? l = some { cls := .type "list", data := .seq itl.toArray nl2 } := keep l _ (Ne.symm hen_l) hol
    have obj4 : ∀ b ∈ [en, a, G.L, l], ∃ o, h2'.get? b = some o ∧ ∀ v, o.data ≠ .cell v := fun b hb => by
      simp only [List.mem_cons, List.not_mem_nil, or_false] at hb
      rcases hb with rfl | rfl | rfl | rfl
      · exact ⟨_, e4, fun v z => nomatch z⟩
      · exact ⟨_, a4, fun v z => by rw [hda] at z; cases z⟩
      · exact ⟨_, L4, fun v z => by rw [hdL] at z; cases z⟩
      · exact ⟨_, l4, fun v z => nomatch z⟩
    have I7 := I6.pinned (fp := [en, a, G.L, l]) (fun b hb => fp I6 (low4 b hb) (none4 b hb)) obj4
    -- over the twins
    have tw := twT_map (s1.setGen gi gs').gens
    have gi_lt : gi < s1.gens.size := by
      rw [show (s1.setGen gi gs').gens.size = s1.gens.size from GenW.setGen_size s1 gi gs'] at hsize
      exact hsize
    have atg : (s1.setGen gi gs').gens[gi]? = some gs' := setGen_at gi_lt
    have I7T : Inv G.X (pins ++ pinsAt [en, a, G.L, l] h2') σ3 (upd H3 s1.heap.objs.size (.tup [.int (i : Nat), x])) (withG { s1.setGen gi gs' with heap := h2', toks := s1.toks + 1 } ((s1.setGen gi gs').gens.map twinG)) := inv_table I7 (bare_twin I7.bare)
    have hsw : ∀ {α : Type} {Gt : Array GenState} {y : α} {z : Shared} {P : Prop}, Sw (fun i => ∃ b, (s1.setGen gi gs').gens[i]? = some b ∧ sleeps b) Gt (fun (e : Value) s' => G.X.xe e s') (.none) z → P := fun h => by
      obtain ⟨_, _, _, _, _, q⟩ := h
      exact (hX _ _ q).elim
    refine wpAny_passesOwn never (wpAny_mono (wpAny_swap tw (hg.run _ _ σ3 _ (.ref s1.heap.objs.size) (.ref s1.heap.objs.size) _ I7T rfl (step i x d σ3 H3 _ hx tx1 p3 fresh))) (fun _ s7 hs7 => ?_) fun y s7 ⟨_, _, _, _, _, q⟩ => (hX _ _ q).elim)
    obtain ⟨s7T, G7, e7, tw7, k7, σ7, H7, I7', hw7⟩ := hs7
    subst e7
    refine wpAny_passesOwn never (wpAny_mono (wpAny_swap tw7 (hb.run _ _ σ7 H7 _ I7' hw7)) (fun fl s8 hs8 => ?_) fun y s8 ⟨_, _, _, _, _, q⟩ => (hX _ _ q).elim)
    obtain ⟨s8T, G8, e8, tw8, k8, hf⟩ := hs8
    subst e8
    have back : ∀ {σ8 : St} {H8 : Hp}, Inv G.X (pins ++ pinsAt [en, a, G.L, l] h2') σ8 H8 s8T → Inv G.X pins σ8 H8 (withG s8T G8) := fun I8 => inv_table I8.unpinned (tw8.bare I8.bare)
    have again : ∀ {σ8 : St} {H8 : Hp}, Inv G.X (pins ++ pinsAt [en, a, G.L, l] h2') σ8 H8 s8T → Pv (i + 1) σ8 H8 → ∃ m', m' < (pre d0).length - i ∧ ∃ i' σ' H', WAt G (T G.D) kids pre v (pre d0) en a gi pins i' σ' H' (withG s8T G8) ∧ m' = (pre d0).length - i' ∧ i' ≤ (pre d0).length ∧ Pv i' σ' H' := fun {σ8 H8} I8 p8 => by
      have pin := fun (b : Addr) (o : Obj) (hb : b ∈ [en, a, G.L, l]) (q : h2'.get? b = some o) => I8.pin (b, o) (List.mem_append_right _ (List.mem_append_right _ (mem_pinsAt hb q)))
      have p1 := pin en _ (by simp) e4
      have p2 := pin a _ (by simp) a4
      have p3' := pin G.L _ (by simp) L4
      have p4 := pin l _ (by simp) l4
      refine ⟨(pre d0).length - (i + 1), by omega, i + 1, σ8, H8, ⟨back I8, tx _ _ _ p8, p1.2.1, p2.2.1, p3'.2.1, ⟨u, ?_⟩, ⟨oa, nmv, qn, p2.1, hca, hda, hsa⟩, gs', some (l, ws), _, s1, ?_, q3, fun o ho => ?_, fun l' hl' o ho => ?_, fun s2 s0 pins2 aw2 => ?_⟩, rfl, hlt, p8⟩
      · have e1 : ((i + 1 : Nat) : Int) = (i : Int) + 1 := by omega
        rw [e1]
        exact p1.1
      · show G8[gi]? = some gs'
        have hS : ∃ b, (s1.setGen gi gs').gens[gi]? = some b ∧ sleeps b := ⟨gs', atg, hsl⟩
        rw [k8 gi hS, k7 gi hS]
        exact atg
      · rw [hoL] at ho
        cases ho
        exact p3'.1
      · rw [List.mem_singleton.mp hl'] at ho ⊢
        rw [hol] at ho
        cases ho
        exact p4.1
      · have z := q4 s2 s0 pins2 aw2
        rw [show (pre d0).length - (i + 1) = m by omega, hA]
        exact z
    cases fl with
    | next => obtain ⟨σ8, H8, I8, q⟩ := hf; exact again I8 q
    | cont => obtain ⟨σ8, H8, I8, q⟩ := hf; exact again I8 q
    | brk => obtain ⟨σ8, H8, I8, q⟩ := hf; exact ⟨σ8, H8, back I8, q⟩
    | ret y => obtain ⟨z, σ8, H8, I8, r8, q⟩ := hf; exact ⟨z, σ8, H8, back I8, r8, q⟩
  · have ei : i = (pre d0).length := by omega
    subst ei
    rw [Nat.sub_self] at hgo
    refine wpAny_passesOwn never (enum_next_end hen (nextOf_gen (A := G.X.A.in1) hd Ir.nolimit hroom st3.gen hgs hgo (fun u s1 gs' _ hb' hy => ?_) fun r s1 hr => ?_))
    · obtain ⟨l, ws, x, ds, d, ls, _, _, _, _, _, q1, q2, _, q3, q4⟩ := hy
      obtain ⟨I1, _, _, nl⟩ := ran q1 q2
      obtain ⟨t1, pins1, aw1⟩ := q3.wake gd I1 st3.tx (fun _ z => z) fun _ _ _ z => z
      exact (q4 _ _ _ aw1).elim
    · obtain ⟨er, _, ls, q1, q2⟩ := hr
      obtain ⟨I1, _, _, _⟩ := ran q1 q2
      refine ⟨er, fun h' e' hk ho => ?_⟩
      obtain ⟨o, ho, hoc⟩ := ho
      refine ⟨⟨e', o, rfl, ho, hoc⟩, ?_⟩
      have I2 : Inv G.X pins σ3 H3 { s1.setGen gi .finished with heap := h' } := (inv_table I1 (allBare_setGen I1.bare rfl)).kept (t' := s1.toks) hk
      exact wpAny_execs_nil ⟨σ3, H3, I2, done σ3 H3 p3⟩
end
section
variable {X : Cx} {x qual : Str} {params : Arguments} {body : List Stmt} {scope : Scope} {f : Addr} {fd : FuncData} {N ps : List Str} {δ : Type} {T : Hp → V → δ → Prop} {kids pre : δ → List δ} {st1 sA sB : Stmt} {test nm e : Expr} {wp yp ep p1 p2 p3 p4 pos tpos : Pos} {elts : List Expr} {kk k : Nat} {te : TE} {g : TG} {tb : TS} {bd : List Stmt}
theorem ps_walk (hX : ∀ y z, ¬ X.xe y z) (hc : X.calm = true) (hr : Room (k + 1) X.A) (hge : Gl X "enumerate") (hme : X.mg "enumerate" = none) (hgw : Gl X x) (F : FunD X.K x qual params body scope [] [] f fd) (hm : X.mg x = some (.ref f)) (S : GScope N ps scope)
    (hnc : ∀ n, PySem.cellsFrom n scope.names [] = []) (hbi : ∀ (kV doc pm : Value) (an : Option Addr) (cdv ct : Value) (us : List Value), us.length = ps.length → bindArgs (PySem.W.fnOf x qual params body scope .none kV doc pm an cdv ct) ⟨us, []⟩ = pure (ps.zip us))
    (ebody : body = [st1, .While test [sA, .Expr (.Yield (some nm) yp) ep, sB] [] wp]) (hps : ps.length = 1) (hN : ∀ v, start N [v] = [some v, none, none]) (hTD : ∀ H v d, T H v d → T (tupsOf H) v d) (hTU : ∀ H v d, T (tupsOf H) v d → T H v d) (hpre : ∀ d, pre d = d :: (kids d).flatMap pre)
    (hi : ∀ L cd, interactive (PyProof.Rows.envOfC qual scope L f cd) = false) (hW : ∀ (s : Shared) (H : Hp) (cd : Value) (v : V), WBody (gpOf X N qual scope f cd H s) (T (tupsOf H)) kids v st1 test sA nm sB)
    (he : PE X e te) (hg : PG X (.Tuple elts kk tpos) g) (hb : PSs X bd tb) (hdb : (x == ("__debug__" : Str)) = false := by decide) (hsw : starEach [e] X.env = (false, eval e X.env) :: starEach [] X.env := by rfl)
    (hse : starEach [.Call (.Name x p2) [e] [] p3] X.env = (false, eval (.Call (.Name x p2) [e] [] p3) X.env) :: starEach [] X.env := by rfl) (hs : ∀ y, foldedSetIterable (.Call (.Name "enumerate" p1) [.Call (.Name x p2) [e] [] p3] [] p4) X.env y = pure y := by intro _; rfl) :
    PS X (.For (.Tuple elts kk tpos) (.Call (.Name "enumerate" p1) [.Call (.Name x p2) [e] [] p3] [] p4) bd [] pos) (tForW T pre te g tb) := by
  refine ⟨fun pins s σ H D I h => ?_⟩
  refine wpAny_For ?_ hs
  refine wpAny_Call_Name_kw (ld_blt I hge hme PyProof.Rows.boot_enumerate ?_)
  refine PyProof.Rows.callWith_type1 ?_ hse rfl
  rw [hse]
  show wpAny _ _ (spliced ((false, eval (.Call (.Name x p2) [e] [] p3) X.env) :: backTo p4 (starEach [] X.env))) _ _ s
  refine Calls.spliced_cons ?_
  refine wpAny_Call_Name_kw (ld_glob I hgw hm ?_ hdb)
  refine PySem.W.callWith_K (h₀ := X.base) I.ok.mod.kin F.kp (thn ((pa_cons he pa_nil hsw).run p3 pins s σ H (fun vs H1 => match vs with | [v] => ∃ d0, T H1 v d0 ∧ (pre d0).length ≤ sizeLine ∧ ∃ Pv : Nat → St → Hp → Prop, Pv 0 σ H1 ∧ (∀ i σ2 H2, Pv i σ2 H2 → TupExt H1 H2) ∧
    (∀ i x d σ2 H2 p, (pre d0)[i]? = some d → T H1 x d → Pv i σ2 H2 → H2 p = none → g (.ref p) σ2 (upd H2 p (.tup [.int (i : Nat), x])) fun σ3 H3 => tb { D with nx := Pv (i + 1), ct := Pv (i + 1), bk := D.nx } σ3 H3) ∧ ∀ σ2 H2, Pv (pre d0).length σ2 H2 → D.nx σ2 H2 | _ => False) I h) fun us s1 ⟨vs, H1, I1, r, q⟩ => ⟨I1.kIn, ?_⟩) hsw rfl
  obtain ⟨v, rfl⟩ : ∃ v, vs = [v] := by
    match vs, q with
    | [v], _ => exact ⟨v, rfl⟩
  obtain ⟨d0, hT, hz, Pv, p0, tx, step, done⟩ := q
  refine gen_made F S hnc hr hbi I1 r (by simpa using hps.symm) (fun a gi cdv s2 I2 ha hne hgen hgs hk hlt gst => ?_)
  refine Calls.spliced_nil (call_enumG hgen fun h' hen hk' => wpAny_pyIter_enum (s := { s2 with heap := h' }) hen ?_)
  have gd : (gpOf X N qual scope f cdv H1 s1).Good := gp_good I1 hnc
  have hpn : ∀ p ∈ X.pn ++ pins, p.1 < s1.heap.objs.size := fun p hp => Heap.lt_size (I1.pin p hp).1
  have I3 : Inv X pins σ H1 { s2 with heap := h' } := I2.kept (t' := s2.toks) hk'
  have TX0 : ∀ H2, TupExt H1 H2 → TX (gpOf X N qual scope f cdv H1 s1) H2 := fun H2 z => by
    refine ⟨fun b xs e => ?_, fun b o e => ?_⟩
    · obtain ⟨ys, e2, e3⟩ := tupsOf_at (show tupsOf H1 b = _ from e)
      cases e2
      rcases z b with q | ⟨q, _⟩
      · rw [q]
        exact e3
      · rw [e3] at q
        cases q
    · rcases z b with q | ⟨q, xs, e2⟩
      · rw [q] at e
        refine .inl ⟨I1.hok.lt e, ?_⟩
        show tupsOf H1 b = none ∨ tupsOf H1 b = some o
        by_cases ht : ∃ xs, o = .tup xs
        · obtain ⟨xs, rfl⟩ := ht
          exact .inr (tupsOf_tup e)
        · refine .inl ?_
          cases q2 : tupsOf H1 b with
          | none => rfl
          | some o2 =>
            obtain ⟨xs, rfl, e3⟩ := tupsOf_at q2
            rw [e] at e3
            cases e3
            exact absurd ⟨xs, rfl⟩ ht
      · rw [e] at e2
        cases e2
        by_cases hb : b < s1.heap.objs.size
        · exact .inl ⟨hb, .inl (tupsOf_none q)⟩
        · exact .inr ⟨Nat.le_of_not_lt hb, xs, rfl⟩
  have hsz : s1.heap.objs.size ≤ s2.heap.objs.size := Nat.le_of_lt hlt
  have nen : s2.heap.objs.size ≠ s1.heap.objs.size := Nat.ne_of_gt hlt
  obtain ⟨oa, nmv, qn, hoa, hca, hda, hsa⟩ := id hgen
  have nea : s2.heap.objs.size ≠ a := Nat.ne_of_gt (Heap.lt_size hoa)
  obtain ⟨sg0, hz0, JG, hlG⟩ := id gst
  have st : WAt (gpOf X N qual scope f cdv H1 s1) (T (tupsOf H1)) kids pre v (pre d0) s2.heap.objs.size a gi pins 0 σ H1 { s2 with heap := h' } := by
    refine ⟨I3, TX0 H1 (TupExt.refl H1), I2.hok.fresh (Nat.le_refl _), I1.hok.fresh ha, I1.hok.fresh (Nat.le_refl _), ⟨.none, hen⟩, ⟨oa, nmv, qn, hk' a oa hoa, hca, hda, hsa⟩, .fresh (.func body (PyProof.Rows.envOfC qual scope s1.heap.objs.size f cdv)), none, _, s2, hgs, gst, fun o ho => hk' _ o ho, fun l hl => absurd hl (by simp [GP.ls]), fun s3 s0 pins3 aw => ⟨rfl, ?_⟩⟩
    rw [ebody]
    rw [hN v] at aw
    exact walk_seg gd hpre (hW s1 H1 cdv v) (by exact S.co) (hi _ _) hz (by unfold itemsW; simp) (hTD H1 v d0 hT) s3 s0 pins3 aw
  exact ps_forW (G := gpOf X N qual scope f cdv H1 s1) gd hX hc hr.hd (by have := hr.depth; exact this) rfl hpn hsz ha nen hne nea hg hb st p0 (fun i σ2 H2 z => TX0 H2 (tx i σ2 H2 z)) (fun i x d σ2 H2 p q1 q2 q3 q4 => step i x d σ2 H2 p q1 (hTU H1 x d q2) q3 q4) done
end

local macro_rules | `(tactic| walk_at "ne") => `(tactic| first
  | assumption
  | (apply Ne.symm; assumption)
  | (refine ne_of_none ?_ ?_; rotate_left; assumption; walk_at "hl")
  | (apply Ne.symm; refine ne_of_none ?_ ?_; rotate_left; assumption; walk_at "hl"))
local macro_rules | `(tactic| walk_at "nm") => `(tactic| first
  | assumption
  | exact nm_nil
  | (refine nm_cons ?_ ?_; walk_at "ne"; walk_at "nm")
  | (refine nm_app ?_ ?_ <;> walk_at "nm"))
local macro_rules | `(tactic| walk_at "hl") => `(tactic| first
  | assumption
  | exact upd_same
  | (refine (upd_ne ?_).trans ?_; walk_at "ne"; walk_at "hl")
  | (refine Eb.get (by assumption) ?_ ?_; walk_at "ne"; walk_at "hl")
  | (refine Ch.get (by assumption) ?_ ?_; walk_at "nm"; walk_at "hl")
  | (refine Same.get (by assumption) ?_; walk_at "hl")
  | (refine Ch.tup (by assumption) ?_; walk_at "hl"))
local macro_rules | `(tactic| walk_at "ms") => `(tactic| first
  | assumption
  | exact ms_nil
  | (refine ms_cons ?_ ?_; (first | (left; simp; done) | (right; assumption)); walk_at "ms")
  | (refine ms_app ?_ ?_ <;> walk_at "ms"))
local macro_rules | `(tactic| walk_at "ch") => `(tactic| first
  | assumption
  | exact Ch.refl
  | (refine Ch.eb (by assumption) (by simp; done) ?_; walk_at "ch")
  | (refine Ch.ebn (by assumption) (by assumption) ?_; walk_at "ch")
  | (refine Ch.ch (by assumption) ?_ ?_; walk_at "ms"; walk_at "ch")
  | (refine Ch.same (by assumption) ?_; walk_at "ch"))
local macro_rules | `(tactic| walk_at "rh1") => `(tactic| first
  | (with_reducible refine r_seq ?_)
  | (with_reducible refine r_asg ?_)
  | (with_reducible refine r_name ?_)
  | ((with_reducible apply r_var); (· rfl))
  | (with_reducible refine r_c ?_)
  | (with_reducible refine r_op ?_)
  | (with_reducible refine r_I0 ?_)
  | (with_reducible refine r_eqI ?_)
  | (with_reducible refine r_neI ?_)
  | (with_reducible refine r_eqS ?_)
  | (with_reducible refine r_neS ?_)
  | (with_reducible refine r_cons ?_)
  | (with_reducible refine r_nil ?_)
  | (with_reducible refine r_test ?_)
  | (with_reducible refine r_B ?_)
  | (with_reducible refine r_bl ?_)
  | (with_reducible refine r_ret ?_)
  | (with_reducible refine r_drop ?_)
  | (with_reducible refine r_un ?_)
  | (with_reducible refine r_U ?_)
  | (with_reducible refine r_CB ?_)
  | (with_reducible refine r_call ?_)
  | (with_reducible refine r_retN ?_)
  | (with_reducible refine r_next ?_)
  | (with_reducible refine r_brk ?_)
  | (with_reducible refine r_and ?_)
  | (with_reducible refine r_or ?_)
  | (with_reducible refine r_not ?_)
  | (with_reducible refine r_andV ?_)
  | (with_reducible refine r_orV ?_)
  | (with_reducible refine r_notV ?_)
  | (with_reducible refine r_chain ?_)
  | (with_reducible refine r_iteF ?_)
  | (with_reducible refine r_iteT ?_)
  | (with_reducible refine r_iteNT ?_)
  | (with_reducible refine r_iteNF ?_)
  | ((with_reducible apply r_I); (· first | decide | exact ⟨by decide, by decide⟩ | exact .inr ⟨by decide, by decide⟩ | exact .inl ⟨by decide, by decide⟩ | exact ⟨by decide, by decide, by decide⟩))
  | (with_reducible refine r_bm ?_)
  | (with_reducible refine r_bm0 ?_)
  | (with_reducible refine r_sub ?_)
  | (with_reducible refine r_yes ?_)
  | (with_reducible refine r_fld ?_)
  | (with_reducible refine r_sfld ?_)
  | (with_reducible refine r_meth ?_)
  | (with_reducible refine r_prop ?_)
  | (with_reducible refine r_make ?_)
  | (with_reducible refine r_gcons ?_)
  | (with_reducible refine r_gnil ?_)
  | (with_reducible refine r_rfl ?_)
  | (with_reducible refine r_for ?_)
  | (with_reducible refine r_rng1 ?_)
  | (with_reducible refine r_int1 ?_)
  | (with_reducible refine r_abs ?_)
  | (with_reducible refine r_tup ?_)
  | (with_reducible refine r_lst ?_))
local macro_rules | `(tactic| walk_at "rh1") => `(tactic| first
  | (with_reducible refine r_sl ?_)
  | (with_reducible refine r_part ?_)
  | (with_reducible refine r_some ?_)
  | (with_reducible refine r_nopart ?_)
  | (with_reducible refine r_rng2 ?_)
  | (with_reducible refine r_rng3 ?_)
  | (with_reducible refine r_itL ?_)
  | (with_reducible refine r_itT ?_)
  | (with_reducible refine r_lcT ?_)
  | (with_reducible refine r_lcL ?_)
  | (with_reducible refine r_lc0 ?_))

local macro_rules | `(tactic| walk_at "fcl") => `(tactic| first | fail)
local macro_rules | `(tactic| walk_at "fna") => `(tactic| first | fail)
local macro_rules | `(tactic| walk_at "flk") => `(tactic| first | fail)
local macro_rules | `(tactic| walk_at "ffw") => `(tactic| first | fail)
local macro_rules | `(tactic| walk_at "fpt") => `(tactic| first | fail)
local macro_rules | `(tactic| walk_at "fno") => `(tactic| first | skip)
local macro_rules | `(tactic| walk_at "rf1") => `(tactic| first | (with_reducible refine r_lstE ?_) | (with_reducible refine r_tupE ?_) | (with_reducible refine r_dnwE ?_) | (with_reducible refine r_orT ?_) | (with_reducible refine r_din ?_) | (with_reducible refine r_dput ?_) | walk_at "rd1" | ((with_reducible apply r_fget); walk_at "hl"; walk_at "fcl"; walk_at "fna"; walk_at "flk") | ((with_reducible apply r_mget); walk_at "hl"; walk_at "fno") | ((with_reducible apply r_pget); walk_at "hl"))
local macro_rules | `(tactic| walk_at "rf") => `(tactic| repeat (walk_at "rf1"))
local macro_rules | `(tactic| walk_at "rg1") => `(tactic| first | (with_reducible refine r_lstE ?_) | (with_reducible refine r_tupE ?_) | (with_reducible refine r_dnwE ?_) | (with_reducible refine r_orT ?_) | (with_reducible refine r_din ?_) | (with_reducible refine r_dput ?_) | walk_at "ri1" | ((with_reducible apply r_fget); walk_at "hl"; walk_at "fcl"; walk_at "fna"; walk_at "flk") | ((with_reducible apply r_mget); walk_at "hl"; walk_at "fno") | ((with_reducible apply r_pget); walk_at "hl"))
local macro_rules | `(tactic| walk_at "rk1") => `(tactic| first | (with_reducible refine r_lstE ?_) | (with_reducible refine r_tupE ?_) | (with_reducible refine r_dnwE ?_) | (with_reducible refine r_orT ?_) | (with_reducible refine r_din ?_) | (with_reducible refine r_dput ?_) | walk_at "rh1" | ((with_reducible apply r_fget); walk_at "hl"; walk_at "fcl"; walk_at "fna"; walk_at "flk") | ((with_reducible apply r_mget); walk_at "hl"; walk_at "fno") | ((with_reducible apply r_pget); walk_at "hl"))
local macro_rules | `(tactic| walk_at "rk") => `(tactic| repeat (walk_at "rk1"))
local macro_rules | `(tactic| walk_at "rg") => `(tactic| repeat (walk_at "rg1"))
local macro_rules | `(tactic| walk_at "fs") => `(tactic| (apply r_fsetE; walk_at "hl"; walk_at "fcl"; walk_at "fna"; walk_at "ffw"; walk_at "fpt"))

/-! ### the law's draws: values of all kinds -/









def sp__law_big (K : Frg) : Sp := sp__law_next K
def sp__law_normal : Sp := sp2 fun a b H Q _ => ∃ m e : Int, a = .int m ∧ b = .int e ∧ m.natAbs < 10 ^ 100 ∧ ∀ (p : Addr) (m' e' : Int) (H' : Hp), nrm m e = (m', e') → H p = none → H' p = some (.tup [.int m', .int e']) → Same H H' → Q (.ref p) H'
def sp__law_many (K : Frg) : Sp := sp2 fun a b H Q _ => ∃ S l mo, a = .ref S.a ∧ b = .int mo ∧ 21 ≤ mo ∧ LB K S l H ∧ ∀ (r : Int) (H' : Hp), 0 ≤ r → r < mo → LB K S l H' → Keep S H H' → Q (.int r) H'
def sp__law_points (K : Frg) : Sp := sp1 fun a H Q _ => ∃ S l, a = .ref S.a ∧ LB K S l H ∧ ∀ (p : Addr) (ps : List Int) (H' : Hp), H' p = some (.tup (ps.map V.int)) → Kp ps → LB K S l H' → Keep S H H' → Q (.ref p) H'
def sp__law_octets (K : Frg) : Sp := sp1 fun a H Q _ => ∃ S l, a = .ref S.a ∧ LB K S l H ∧ ∀ (p : Addr) (os : List Int) (H' : Hp), H' p = some (.tup (os.map V.int)) → os.length ≤ 300 → LB K S l H' → Keep S H H' → Q (.ref p) H'
theorem keep_away {S : SC} {H H' : Hp} {D : Addr} {o : HO} (k : Keep S H H') (n : H D = none) : Keep S H (upd H' D o) := fun b u hb h => by
  rw [upd_ne (fun e => by rw [e, n] at h; cases h)]
  exact k b u hb h
theorem LB.away {K : Frg} {S : SC} {H H1 : Hp} {l l1 : Int} (L1 : LB K S l1 H1) {D : Addr} (hD : H1 D = none) (L : LB K S l H) (o : HO) : LB K S l (upd H D o) := by
  refine ⟨L1.ls.away hD L.ls o, ?_⟩
  obtain ⟨_, k1, f1, e1⟩ := L1
  obtain ⟨_, k, f, e⟩ := L
  exact ⟨k, f, (upd_ne (fun z => by rw [z, hD] at e1; cases e1)).trans e⟩
def menu22 : List Int := [97, 98, 34, 92, 47, 10, 9, 1, 31, 127, 128, 233, 2047, 2048, 8364, 55295, 57344, 65535, 65536, 128512, 1114111, 48]
theorem menu22_in : ∀ v ∈ menu22, Point v := by
  intro v hv
  have h : ∀ v ∈ menu22, 0 ≤ v ∧ v ≤ 1114111 ∧ (v < 55296 ∨ 57344 ≤ v) := by decide
  exact h v hv
theorem pt_low {v : Int} (h0 : 0 ≤ v) (h1 : v < 55296) : Point v := ⟨h0, by omega, .inl h1⟩
/-- leaves: what bencode has, numbers far off, and what it lacks -/
inductive Lg : Str → List PyData → Prop
  | of {k : Str} {r : List PyData} (h : Lb k r) : Lg k r
  | far (m e : Int) (h : ¬ (0 ≤ e ∧ e ≤ 800)) : Lg "number" [.int m, .int e]
  | odd (k : Str) (r : List PyData) (h : k = "null" ∨ k = "truth" ∨ k = "text") : Lg k r
def KsOk (ks : List Str) : Prop := 0 < ks.length ∧ ks.length ≤ 100 ∧ ∀ k ∈ ks, k = "number" ∨ k = "far" ∨ k = "bytes" ∨ k = "text" ∨ k = "truth" ∨ k = "null"
mutual
/-- values with such leaves -/
def Vl.gf : Nat → Vl → Prop
  | _, .lf k r => Lg k r
  | 0, .ls _ => False
  | 0, .mp _ => False
  | n + 1, .ls xs => xs.length ≤ 49 ∧ gfL n xs
  | n + 1, .mp es => es.length ≤ 49 ∧ (es.map (·.1)).Pairwise (fun x y => HT.lexLt x y = true) ∧ (∀ e ∈ es, Kp e.1) ∧ gfM n es
def gfL : Nat → List Vl → Prop
  | _, [] => True
  | n, x :: xs => x.gf n ∧ gfL n xs
def gfM : Nat → List (List Int × Vl) → Prop
  | _, [] => True
  | n, (_, v) :: es => v.gf n ∧ gfM n es
end
theorem gfL_mem : ∀ {n : Nat} {xs : List Vl}, gfL n xs → ∀ x ∈ xs, x.gf n
  | _, [], _, x, h => absurd h (by simp)
  | _, y :: ys, h, x, hx => by
    rcases List.mem_cons.mp hx with e | e
    · rw [e]
      exact h.1
    · exact gfL_mem h.2 x e
theorem gfL_of : ∀ {n : Nat} {xs : List Vl}, (∀ x ∈ xs, x.gf n) → gfL n xs
  | _, [], _ => trivial
  | _, y :: ys, h => ⟨h _ (List.mem_cons_self ..), gfL_of fun e he => h e (List.mem_cons_of_mem _ he)⟩
theorem gfM_of : ∀ {n : Nat} {es : List (List Int × Vl)}, (∀ e ∈ es, e.2.gf n) → gfM n es
  | _, [], _ => trivial
  | _, (k, v) :: ys, h => ⟨h _ (List.mem_cons_self ..), gfM_of fun e he => h e (List.mem_cons_of_mem _ he)⟩
theorem gfM_mem : ∀ {n : Nat} {es : List (List Int × Vl)}, gfM n es → ∀ e ∈ es, e.2.gf n
  | _, [], _, x, h => absurd h (by simp)
  | _, (k, v) :: ys, h, x, hx => by
    rcases List.mem_cons.mp hx with e | e
    · rw [e]
      exact h.1
    · exact gfM_mem h.2 x e
/-- what the budget l, gone down to l', allows for a value of size n -/
def Bud (l l' : Int) (n : Nat) : Prop := (n : Int) + 1 ≤ 2 * (l - l') ∧ l - l' ≤ 1 + 49 * (max l 0 - max l' 0)
/-- the same for k values, of size n together -/
def BudL (l l' : Int) (n k : Nat) : Prop := (n : Int) + k ≤ 2 * (l - l') ∧ l - l' ≤ k + 49 * (max l 0 - max l' 0)
theorem budL_nil (l : Int) : BudL l l 0 0 := by unfold BudL; omega
theorem budL_cons {l l1 l2 : Int} {n m k : Nat} (a : BudL l l1 n k) (b : Bud l1 l2 m) : BudL l l2 (n + m) (k + 1) := by
  unfold BudL Bud at *
  omega
theorem bud_node {l l' : Int} {n k : Nat} (hl : 0 < l - 1) (hk : k ≤ 49) (a : BudL (l - 1) l' n k) : Bud l l' (1 + n) := by
  unfold BudL at a
  unfold Bud
  omega
theorem bud_map {l l' : Int} {n k : Nat} (hl : 0 < l - 1) (hk : k ≤ 49) (a : BudL (l - 1) l' n k) : Bud l l' (1 + (n + k)) := by
  unfold BudL at a
  unfold Bud
  omega
theorem bud_leaf {l : Int} {n : Nat} (h : n ≤ 1) : Bud l (l - 1) n := by
  unfold Bud
  omega
mutual
/-- how large it is -/
def vsz : Vl → Nat
  | .ls xs => 1 + vszL xs
  | .mp es => 1 + vszM es
  | .lf _ _ => 1
def vszL : List Vl → Nat
  | [] => 0
  | x :: xs => vsz x + vszL xs
def vszM : List (List Int × Vl) → Nat
  | [] => 0
  | (_, v) :: es => 1 + vsz v + vszM es
end
theorem gfL_app {n : Nat} {xs ys : List Vl} (h1 : gfL n xs) (h2 : gfL n ys) : gfL n (xs ++ ys) := gfL_of fun x hx => by
  rcases List.mem_append.mp hx with q | q
  · exact gfL_mem h1 x q
  · exact gfL_mem h2 x q
theorem gf_leaf {k : Str} {r : List PyData} (h : Lg k r) (n : Nat) : (Vl.lf k r).gf n := by cases n <;> exact h
theorem vszL_app : ∀ (xs ys : List Vl), vszL (xs ++ ys) = vszL xs + vszL ys
  | [], ys => (Nat.zero_add _).symm
  | x :: xs, ys => by
    show vsz x + vszL (xs ++ ys) = vsz x + vszL xs + vszL ys
    rw [vszL_app xs ys, Nat.add_assoc]
theorem vszM_sum : ∀ es : List (List Int × Vl), vszM es = (es.map fun e => vsz e.2).sum + es.length
  | [] => rfl
  | (k, v) :: es => by
    show 1 + vsz v + vszM es = (vsz v + (es.map fun e => vsz e.2).sum) + (es.length + 1)
    rw [vszM_sum es]
    omega
/-- an entry and its value -/
def EvF (H : Hp) (n : Nat) (e : Ent × Vl) : Prop := EntAt H e.1 ∧ Tp H (.ref e.1.u) e.2.dat ∧ e.2.gf n ∧ Kp e.1.k
theorem EvF.tk {H H' : Hp} {n : Nat} {e : Ent × Vl} (k : Tk H H') (h : EvF H n e) : EvF H' n e := ⟨h.1.tk k, Tp.tk k _ _ h.2.1, h.2.2⟩
theorem tpa_entF {H : Hp} {n : Nat} {zs : List (Ent × Vl)} (h : ∀ e ∈ zs, EvF H n e) : TpAll H ((zs.map fun e => e.1).map fun e => V.ref e.t) (datM (zs.map fun e => (e.1.k, e.2))) := by
  rw [datM_map, List.map_map, List.map_map]
  exact tpa_map fun e he => .tup (h e he).1.1 (.cons (tp_kd (h e he).1.2) (.cons (h e he).2.1 .nil))
def sp__law_number (K : Frg) : Sp := sp2 fun a b H Q _ => ∃ S l far, a = .ref S.a ∧ b = .bl far ∧ LB K S l H ∧ ∀ (v : V) (m e : Int) (H' : Hp), (far = false → Nf m e ∧ m.natAbs < 10 ^ 60) → (far = true → ¬ (0 ≤ e ∧ e ≤ 800)) → Tp H' v (.tuple [.str "number", .int m, .int e]) → LB K S l H' → Keep S H H' → Q v H'
def sp__law_leaf (K : Frg) : Sp := sp2 fun a b H Q _ => ∃ S l kl ks, a = .ref S.a ∧ b = .ref kl ∧ kl ≠ S.a ∧ H kl = some (.lst (ks.map V.str)) ∧ KsOk ks ∧ LB K S l H ∧ ∀ (v : V) (k : Str) (r : List PyData) (H' : Hp), Lg k r → Tp H' v (.tuple (.str k :: r)) → LB K S l H' → Keep S H H' → Q v H'
def sp__law_value (K : Frg) (n : Nat) : Sp := sp4 fun a d k m H Q _ => ∃ (S : SC) (l : Int) (deep : Nat) (kl : Addr) (ks : List Str) (mp : Bool), a = .ref S.a ∧ d = .int (deep : Nat) ∧ k = .ref kl ∧ m = .bl mp ∧ kl ≠ S.a ∧ H kl = some (.lst (ks.map V.str)) ∧ KsOk ks ∧ deep < n ∧ LB K S l H ∧
  ∀ (v : V) (t : Vl) (l' : Int) (H' : Hp), t.gf deep → Bud l l' (vsz t) → Tp H' v t.dat → LB K S l' H' → Keep S H H' → Q v H'
theorem no__law_value {K : Frg} {vs : List V} {H : Hp} {Q : VK} {E : XK} (h : sp__law_value K 0 vs H Q E) : False := by
  obtain ⟨_, _, _, _, rfl, S, l, deep, kl, ks, mp, _, _, _, _, _, _, _, h, _⟩ := h
  exact absurd h (Nat.not_lt_zero _)
def sp__law_towered (K : Frg) : Sp := sp3 fun a b c H Q _ => ∃ S l t mp, a = .ref S.a ∧ c = .bl mp ∧ LB K S l H ∧ Tp H b (Vl.dat t) ∧ t.gf 4 ∧ ∀ (v : V) (t' : Vl) (n : Nat) (H' : Hp), n ≤ 24 → t'.gf n → vsz t' ≤ vsz t + 40 → Tp H' v t'.dat → LB K S l H' → Keep S H H' → Q v H'
def sp__law_mixed (K : Frg) : Sp := sp2 fun a b H Q _ => ∃ (S : SC) (l : Int) (p : Addr) (xs : List V), a = .ref S.a ∧ b = .ref p ∧ H p = some (.tup xs) ∧ xs.length ≤ 1000 ∧ LB K S l H ∧ ∀ (q : Addr) (ys : List V) (H' : Hp), ys.Perm xs → H q = none → q ≠ S.a → H' q = some (.lst ys) → LB K S l H' → Keep S H H' → Q (.ref q) H'
theorem new_b {K : Frg} {S : SC} {l : Int} {H : Hp} {p : Addr} {o : HO} (L : LB K S l H) (hp : H p = none) : ∃ H', upd H p o = H' ∧ LB K S l H' ∧ Same H H' ∧ H' p = some o := ⟨_, rfl, L.new hp o, same_upd hp o, upd_same⟩
def edges13 : List Int := [9, 10, 99, 100, 255, 256, 999, 2 ^ 31, 2 ^ 32, 2 ^ 63, 2 ^ 64, 10 ^ 20, 10 ^ 30]
theorem edges13_in : ∀ v ∈ edges13, 0 ≤ v ∧ v ≤ 10 ^ 30 := by decide +kernel
/-- what the branches leave -/
def MidN (K : Frg) (S : SC) (l : Int) (H : Hp) (far : Bool) (pick sg : Int) (σ : St) (H' : Hp) : Prop := LB K S l H' ∧ Keep S H H' ∧ ∃ (m e : Int) (y6 y7 y8 : Option V), Nf m e ∧ m.natAbs < 10 ^ 60 ∧ σ = [some (.ref S.a), some (.bl far), some (.int pick), some (.int sg), some (.int m), some (.int e), y6, y7, y8]
theorem nf_of {m e m' e' : Int} (hm : m.natAbs < 10 ^ 60) (he : 0 ≤ e) (he2 : e ≤ 100) (h : nrm m e = (m', e')) : Nf m' e' ∧ m'.natAbs < 10 ^ 60 := by
  by_cases c : m = 0
  · rw [c, nrm_zero] at h
    injection h with h1 h2
    exact ⟨.inl ⟨h1.symm, h2.symm⟩, by rw [← h1]; decide⟩
  · obtain ⟨a, k, e1, e2, e3⟩ := nrm_of e c
    rw [e1] at h
    injection h with h1 h2
    have hle : a.natAbs ≤ m.natAbs := by
      rw [e3, Int.natAbs_mul, natAbs10]
      exact Nat.le_mul_of_pos_right _ (Nat.pow_pos (by decide))
    have hk : k < 60 := by
      rcases Nat.lt_or_ge k 60 with q | q
      · exact q
      · exfalso
        have ha : 1 ≤ a.natAbs := by omega
        have h3 : 10 ^ 60 ≤ m.natAbs := by
          rw [e3, Int.natAbs_mul, natAbs10]
          exact Nat.le_trans (pow10_le q) (Nat.le_trans (Nat.le_of_eq (Nat.one_mul _).symm) (Nat.mul_le_mul_right _ ha))
        omega
    exact ⟨.inr ⟨by rw [← h1]; exact e2, by omega, by omega⟩, by rw [← h1]; omega⟩
theorem r_par {σ : St} {H : Hp} {n b c : St → Hp → Prop} {r : VK} {i j : Nat} {ta : TA} (h : ta σ H fun vs H1 => ∃ v w, vs = [v, w] ∧ n ((σ.set i (some v)).set j (some w)) H1) : tPar i j ta ⟨n, r, b, c⟩ σ H := h
theorem r_pair {x y : V} {R : V → V → Prop} (h : R x y) : ∃ v w, [x, y] = [v, w] ∧ R v w := ⟨x, y, rfl, h⟩
local macro_rules | `(tactic| walk_at "rd1") => `(tactic| first | (with_reducible refine r_par ?_) | (with_reducible refine r_pair ?_))
section
variable {P : Program} {w : World} {K : PySem.W.Frag} {mg : Str → Option Value} {base : Heap} {f : Addr} {fd : FuncData}
theorem ok__law_big (F : FunD K "_law_big" "_law_big" (defArgs s__law_big) (defBody s__law_big) (defScope s__law_big) [] [] (glAd "_law_big" K) fd) (m : mg "_law_big" = some (.ref (glAd "_law_big" K))) (nb : Nm K mg) (c__law_cell : Cal P w K mg base 1 "_law_cell" (sp__law_cell K) []) (c__law_next : Cal P w K mg base 1 "_law_next" (sp__law_next K) []) : Cal P w K mg base 2 "_law_big" (sp__law_big K) [] := by
  refine calD F m sc__law_big (fun _ _ _ _ _ _ us hl => match us, hl with | [_, _], _ => rfl) len2 (fun cdv A outer s H vs Q E hr h => ⟨_, (pss_cons (ps_set (i := 2) sc__law_big.nd rfl (Or.inl rfl) (pe_callB call_abs (by rfl) nb.abs (by decide +kernel) (pa_cons (pe_c c__law_cell hr (by decide) rfl (pa_cons (pe_ix ix_list (pv 0) pe_int (fun _ _ => rfl)) (pa_cons (pe_op op_add pe_int (pe_c c__law_next hr (by decide) rfl (pa_cons (pv 0) (pa_cons pe_int pa_nil)))) pa_nil))) pa_nil)))
    (pss_one (ps_ret (pe_op op_mod (pe_callTy call_int1 (by rfl) nb.int (by decide +kernel) (pa_cons (pe_op op_add (pe_op op_mul (pv 2) pe_int) (pe_c c__law_next hr (by decide) rfl (pa_cons (pv 0) (pa_cons pe_int pa_nil)))) pa_nil)) (pv 1))))), ?_⟩)
  obtain ⟨_, _, rfl, S, l, mm, rfl, rfl, h0, L, h⟩ := h
  obtain ⟨k, f5, e⟩ := L.at_
  walk_at "rd"
  refine r_ixL (SqL.of e) rfl ?_
  walk_at "rd"
  refine b_next L (by decide) fun r1 H1 a1 b1 L1 k1 => ?_
  walk_at "rd"
  refine ⟨_, _, rfl, S.sl, S.ns, _, rfl, rfl, L1.ls.scr, by omega, fun z => ?_⟩
  walk_at "rd"
  refine b_next L1 (by decide) fun r2 H2 a2 b2 L2 k2 => ?_
  walk_at "rd"
  refine r_I h0 ?_
  exact h _ _ (Int.emod_nonneg _ (by omega)) (Int.emod_lt_of_pos _ h0) L2 (k1.trans k2)
theorem ok__law_normal (F : FunD K "_law_normal" "_law_normal" (defArgs s__law_normal) (defBody s__law_normal) (defScope s__law_normal) [] [] (glAd "_law_normal" K) fd) (m : mg "_law_normal" = some (.ref (glAd "_law_normal" K))) (nb : Nm K mg) : Cal P w K mg base 1 "_law_normal" sp__law_normal [] := by
  refine calD F m sc__law_normal (fun _ _ _ _ _ _ us hl => match us, hl with | [_, _], _ => rfl) len2 (fun cdv A outer s H vs Q E hr h => ⟨_, (pss_cons (ps_if (pt_cmpR op_eq (pv 0) pe_int (nomark _))
    (pss_one (ps_ret (pe_tupE (pa_cons pe_int (pa_cons pe_int pa_nil)))))
    pss_nil)
    (pss_cons (ps_for PassesOwn.never rfl (pi_range1 rfl nb.range (pa_cons pe_int pa_nil)) (pg_name (i := 2) sc__law_normal.nd rfl (Or.inl rfl))
    (pss_cons (ps_if (pt_cmpR op_ne (pe_op op_mod (pe_callTy call_int1 (by rfl) nb.int (by decide +kernel) (pa_cons (pv 0) pa_nil)) pe_int) pe_int (nomark _))
    (pss_one (ps_ret (pe_tupE (pa_cons (pv 0) (pa_cons (pv 1) pa_nil)))))
    pss_nil)
    (pss_cons (ps_set (i := 0) sc__law_normal.nd rfl (Or.inl rfl) (pe_op op_fdiv (pv 0) pe_int))
    (pss_one (ps_set (i := 1) sc__law_normal.nd rfl (Or.inl rfl) (pe_op op_add (pv 1) pe_int))))))
    (pss_one (ps_ret (pe_tupE (pa_cons (pv 0) (pa_cons (pv 1) pa_nil))))))), ?_⟩)
  obtain ⟨_, _, rfl, m, e, rfl, rfl, hm, h⟩ := h
  walk_at "rf"
  refine r_ite (fun c => ?_) (fun c => ?_)
  · walk_at "rf"
    exact ⟨by show 2 ≤ sizeLine; decide, fun p H' np g s => h p _ _ H' (by rw [c, nrm_zero]) np g s⟩
  walk_at "rf"
  refine r_turns (by decide) (by decide) (fun i σ H' => H = H' ∧ ∃ (m' e' : Int) (y : Option V), nrm m' e' = nrm m e ∧ m' ≠ 0 ∧ m'.natAbs * 10 ^ i ≤ m.natAbs ∧ σ = [some (.int m'), some (.int e'), y]) ⟨rfl, m, e, none, rfl, c, by simp, rfl⟩ ?_ ?_
  · rintro i σ _ hi ⟨rfl, m', e', y, hm1, hm2, hm3, rfl⟩
    walk_at "rf"
    refine r_iten (fun c => ?_) (fun c => ?_)
    · walk_at "rf"
      exact ⟨by show 2 ≤ sizeLine; decide, fun p H' np g s => h p _ _ H' (by rw [← hm1, nrm_stop e' c]) np g s⟩
    · walk_at "rf"
      refine ⟨rfl, _, _, _, by rw [← nrm_step e' hm2 c]; exact hm1, by omega, ?_, rfl⟩
      have e1 : m'.natAbs = (m' / 10).natAbs * 10 := by omega
      rw [Nat.pow_succ, Nat.mul_comm (10 ^ i), ← Nat.mul_assoc, ← e1]
      exact hm3
  · rintro σ _ ⟨rfl, m', e', y, hm1, hm2, hm3, rfl⟩
    exfalso
    have h1 : 1 ≤ m'.natAbs := by omega
    have h2 : 10 ^ 3001 ≤ m.natAbs := Nat.le_trans (Nat.le_trans (Nat.le_of_eq (Nat.one_mul _).symm) (Nat.mul_le_mul_right (10 ^ 3001) h1)) hm3
    have h3 : (10 : Nat) ^ 100 ≤ 10 ^ 3001 := Nat.pow_le_pow_right (by decide) (by decide)
    omega
theorem ok__law_many (F : FunD K "_law_many" "_law_many" (defArgs s__law_many) (defBody s__law_many) (defScope s__law_many) [] [] (glAd "_law_many" K) fd) (m : mg "_law_many" = some (.ref (glAd "_law_many" K))) (nb : Nm K mg) (c__law_next : Cal P w K mg base 1 "_law_next" (sp__law_next K) []) : Cal P w K mg base 2 "_law_many" (sp__law_many K) [] := by
  refine calD F m sc__law_many (fun _ _ _ _ _ _ us hl => match us, hl with | [_, _], _ => rfl) len2 (fun cdv A outer s H vs Q E hr h => ⟨_, (pss_cons (ps_if (PW.pt (pw_and (pt_cmpR op_gt (pe_ix ix_list (pv 0) pe_int (fun _ _ => rfl)) pe_int (nomark _)) (pw_and1 (pt_cmpR op_eq (pe_c c__law_next hr (by decide) rfl (pa_cons (pv 0) (pa_cons pe_int pa_nil))) pe_int (nomark _)))))
    (pss_cons (ps_asg (pe_op op_sub (pe_ix ix_list (pv 0) pe_int (fun _ _ => rfl)) pe_int) (pg_sub (pv 0) pe_int set_list))
    (pss_one (ps_ret (pe_op op_add pe_int (pe_c c__law_next hr (by decide) rfl (pa_cons (pv 0) (pa_cons (pe_op op_sub (pv 1) pe_int) pa_nil)))))))
    pss_nil)
    (pss_one (ps_ret (pe_c c__law_next hr (by decide) rfl (pa_cons (pv 0) (pa_cons pe_int pa_nil)))))), ?_⟩)
  obtain ⟨_, _, rfl, S, l, mo, rfl, rfl, hmo, L, h⟩ := h
  obtain ⟨kk, f5, e⟩ := L.at_
  walk_at "rf"
  refine r_ixL (SqL.of e) rfl ?_
  walk_at "rf"
  refine r_ite (fun c => ?_) (fun c => ?_)
  · walk_at "rf"
    refine b_next L (by decide) fun r3 H3 a3 b3 L3 k3 => ?_
    walk_at "rf"
    refine r_ite (fun c2 => ?_) (fun c2 => ?_)
    · obtain ⟨kk, f5, e⟩ := L3.at_
      walk_at "rf"
      refine r_ixL (SqL.of e) rfl ?_
      walk_at "rf"
      refine r_setL e rfl ?_
      walk_at "rf"
      have L4 := L3.put kk l (f5 - 1)
      have k4 := k3.trans (Keep.put (H := H3) (.lst [.ref S.nl, .int kk, .int l, .ref S.sl, .int (f5 - 1)]))
      refine b_next L4 (by omega) fun r5 H5 a5 b5 L5 k5 => ?_
      walk_at "rf"
      exact h _ _ (by omega) (by omega) L5 (k4.trans k5)
    · walk_at "rf"
      refine b_next L3 (by decide) fun r5 H5 a5 b5 L5 k5 => ?_
      exact h _ _ a5 (by omega) L5 (k3.trans k5)
  · walk_at "rf"
    refine b_next L (by decide) fun r5 H5 a5 b5 L5 k5 => ?_
    exact h _ _ a5 (by omega) L5 k5
theorem ok__law_points (F : FunD K "_law_points" "_law_points" (defArgs s__law_points) (defBody s__law_points) (defScope s__law_points) [] [] (glAd "_law_points" K) fd) (m : mg "_law_points" = some (.ref (glAd "_law_points" K))) (nb : Nm K mg) (c__law_next : Cal P w K mg base 1 "_law_next" (sp__law_next K) []) (c__law_many : Cal P w K mg base 2 "_law_many" (sp__law_many K) []) : Cal P w K mg base 3 "_law_points" (sp__law_points K) [] := by
  refine calD F m sc__law_points (fun _ _ _ _ _ _ us hl => match us, hl with | [_], _ => rfl) len1 (fun cdv A outer s H vs Q E hr h => ⟨_, (pss_cons (ps_set (i := 1) sc__law_points.nd rfl (Or.inl rfl) (pe_lstE (pa_cons pe_int (pa_cons pe_int (pa_cons pe_int (pa_cons pe_int (pa_cons pe_int (pa_cons pe_int (pa_cons pe_int (pa_cons pe_int (pa_cons pe_int (pa_cons pe_int (pa_cons pe_int (pa_cons pe_int (pa_cons pe_int (pa_cons pe_int (pa_cons pe_int (pa_cons pe_int (pa_cons pe_int (pa_cons pe_int (pa_cons pe_int (pa_cons pe_int (pa_cons pe_int (pa_cons pe_int pa_nil))))))))))))))))))))))))
    (pss_cons (ps_set (i := 2) sc__law_points.nd rfl (Or.inl rfl) (pe_lstE pa_nil))
    (pss_cons (ps_for PassesOwn.never rfl (pi_range1 rfl nb.range (pa_cons (pe_c c__law_many hr (by decide) rfl (pa_cons (pv 0) (pa_cons pe_int pa_nil))) pa_nil)) (pg_name (i := 3) sc__law_points.nd rfl (Or.inl rfl))
    (pss_cons (ps_set (i := 4) sc__law_points.nd rfl (Or.inl rfl) (pe_c c__law_next hr (by decide) rfl (pa_cons (pv 0) (pa_cons pe_int pa_nil))))
    (pss_cons (ps_set (i := 5) sc__law_points.nd rfl (Or.inl rfl) (pe_op op_add pe_int (pe_c c__law_next hr (by decide) rfl (pa_cons (pv 0) (pa_cons pe_int pa_nil)))))
    (pss_cut (ps_if (pt_cmpR op_eq (pv 4) pe_int (nomark _))
    (pss_one (ps_set (i := 5) sc__law_points.nd rfl (Or.inl rfl) (pe_ix ix_list (pv 1) (pe_c c__law_next hr (by decide) rfl (pa_cons (pv 0) (pa_cons pe_int pa_nil))) (fun _ _ => rfl))))
    (pss_one (ps_if (pt_cmpR op_eq (pv 4) pe_int (nomark _))
    (pss_one (ps_set (i := 5) sc__law_points.nd rfl (Or.inl rfl) (pe_c c__law_next hr (by decide) rfl (pa_cons (pv 0) (pa_cons pe_int pa_nil)))))
    (pss_one (ps_if (pt_cmpR op_eq (pv 4) pe_int (nomark _))
    (pss_cons (ps_set (i := 5) sc__law_points.nd rfl (Or.inl rfl) (pe_op op_add (pe_op op_add (pe_op op_mul pe_int (pe_c c__law_next hr (by decide) rfl (pa_cons (pv 0) (pa_cons pe_int pa_nil)))) (pe_c c__law_next hr (by decide) rfl (pa_cons (pv 0) (pa_cons pe_int pa_nil)))) (pe_op op_mul pe_int (pe_c c__law_next hr (by decide) rfl (pa_cons (pv 0) (pa_cons pe_int pa_nil))))))
    (pss_one (ps_set (i := 5) sc__law_points.nd rfl (Or.inl rfl) (pe_op op_add (pv 5) (pe_op op_mul pe_int (pe_callTy call_int1 (by rfl) nb.int (by decide +kernel) (pa_cons (pe_cmpR op_gt (pv 5) pe_int (nomark _)) pa_nil)))))))
    pss_nil)))))
    (pss_one (ps_expr (pe_bm PySem.F.plainAttrs_list PySem.F.slot_list_append PySem.F.type_list_append mt_append (pv 2) (pa_cons (pv 5) pa_nil))))))))
    (pss_one (ps_ret (pe_callTy call_tuple_ofE (by rfl) nb.tuple (by decide +kernel) (pa_cons (pv 2) pa_nil))))))), ?_⟩)
  obtain ⟨_, rfl, S, l, rfl, L, h⟩ := h
  walk_at "rf"
  refine ⟨by show 22 ≤ sizeLine; decide, fun pm H1 nm g1 s1 => ?_⟩
  have L1 := L.same s1
  have ne1 := L.ne_free nm
  walk_at "rf"
  refine ⟨by show 0 ≤ sizeLine; decide, fun q H2 nq g2 s2 => ?_⟩
  have L2 := L1.same s2
  have ne2 := L1.ne_free nq
  have pq : pm ≠ q := Same.ne nq g1
  have nq0 : H q = none := s1.free nq
  walk_at "rf"
  refine ⟨_, _, rfl, S, l, 140, rfl, rfl, by decide, L2, fun many H3 a3 b3 L3 k3 => ?_⟩
  have g13 := k3 _ _ ne1 (s2 _ _ g1)
  have g23 := k3 _ _ ne2 g2
  have kk3 : Keep S H H3 := (Keep.of (s1.trans s2)).trans k3
  walk_at "rf"
  refine r_turns (by omega) (by omega) (fun i σ H' => LB K S l H' ∧ Keep S H H' ∧ i ≤ 139 ∧ ∃ (ps : List Int) (y3 y4 y5 : Option V), ps.length = i ∧ (∀ c ∈ ps, Point c) ∧ H' pm = some (.lst (menu22.map V.int)) ∧ H' q = some (.lst (ps.map V.int)) ∧ σ = [some (.ref S.a), some (.ref pm), some (.ref q), y3, y4, y5]) ⟨L3, kk3, Nat.zero_le _, [], _, _, _, rfl, (fun c h => by cases h), g13, g23, rfl⟩ ?_ ?_
  · rintro i σ H4 hi ⟨L4, k4, hi2, ps, y3, y4, y5, hl, hp, g4, q4, rfl⟩
    have put : ∀ (H5 : Hp) (c : Int) (z4 z5 : Option V), LB K S l H5 → Keep S H4 H5 → Point c → ∀ H6, H6 q = some (.lst (ps.map V.int ++ [.int c])) → Eb q H5 H6 → LB K S l H6 ∧ Keep S H H6 ∧ i + 1 ≤ 139 ∧ ∃ (ps : List Int) (y3 y4 y5 : Option V), ps.length = i + 1 ∧ (∀ c ∈ ps, Point c) ∧ H6 pm = some (.lst (menu22.map V.int)) ∧ H6 q = some (.lst (ps.map V.int)) ∧ [some (V.ref S.a), some (.ref pm), some (.ref q), some (.int (i : Nat)), z4, z5] = [some (.ref S.a), some (.ref pm), some (.ref q), y3, y4, y5] := fun H5 c z4 z5 L5 k5 hc H6 g6 f6 => by
      have e6 : H6 = upd H5 q (.lst (ps.map V.int ++ [.int c])) := by
        funext b
        by_cases hb : b = q
        · rw [hb, g6, upd_same]
        · rw [f6.1 b hb, upd_ne hb]
      subst e6
      refine ⟨L.away nq0 L5 _, keep_away (k4.trans k5) nq0, by omega, ps ++ [c], _, z4, z5, by rw [List.length_append, hl]; rfl, fun d hd => ?_, f6.get pq (k5 _ _ ne1 g4), by rw [g6, map_snoc], rfl⟩
      rcases List.mem_append.mp hd with z | z
      · exact hp d z
      · rw [List.mem_singleton.mp z]; exact hc
    walk_at "rf"
    refine b_next L4 (by decide) fun pick H5 a5 b5 L5 k5 => ?_
    walk_at "rf"
    refine b_next L5 (by decide) fun r6 H6 a6 b6 L6 k6 => ?_
    have k6 := k5.trans k6
    have sm : (ps.map V.int).length < sizeLine := small1000 (by rw [List.length_map]; omega)
    walk_at "rf"
    refine r_cut (fun σ H' => LB K S l H' ∧ Keep S H4 H' ∧ ∃ c, Point c ∧ ∃ y4, σ = [some (.ref S.a), some (.ref pm), some (.ref q), some (.int (i : Nat)), y4, some (.int c)]) ?_ ?_
    · walk_at "rf"
      refine r_ite (fun c => ?_) (fun c => ?_)
      · walk_at "rf"
        refine b_next L6 (by decide) fun r7 H7 a7 b7 L7 k7 => ?_
        obtain ⟨v, hv, ev⟩ := atI_ints (ns := menu22) (k := r7) a7 b7
        have g7 := k7 _ _ ne1 (k6 _ _ ne1 g4)
        walk_at "rf"
        refine r_ixL (SqL.of g7) ev ?_
        walk_at "rf"
        exact ⟨L7, k6.trans k7, v, menu22_in v hv, _, rfl⟩
      walk_at "rf"
      refine r_ite (fun c => ?_) (fun c => ?_)
      · walk_at "rf"
        refine b_next L6 (by decide) fun r7 H7 a7 b7 L7 k7 => ?_
        walk_at "rf"
        exact ⟨L7, k6.trans k7, r7, pt_low a7 (by omega), _, rfl⟩
      walk_at "rf"
      refine r_ite (fun c => ?_) (fun c => ?_)
      · walk_at "rf"
        refine b_next L6 (by decide) fun r7 H7 a7 b7 L7 k7 => ?_
        walk_at "rf"
        refine b_next L7 (by decide) fun r8 H8 a8 b8 L8 k8 => ?_
        walk_at "rf"
        refine b_next L8 (by decide) fun r9 H9 a9 b9 L9 k9 => ?_
        walk_at "rf"
        refine .inr ⟨_, rfl, ?_⟩
        walk_at "rf"
        refine ⟨L9, ((k6.trans k7).trans k8).trans k9, _, ?_, _, rfl⟩
        unfold Point
        split
        · rename_i z
          have z := of_decide_eq_true z
          omega
        · rename_i z
          have z : ¬ _ := fun q => z (decide_eq_true q)
          omega
      · walk_at "rf"
        exact ⟨L6, k6, _, pt_low (by omega) (by omega), _, rfl⟩
    · rintro σ H7 ⟨L7, k7, c, hc, y4, rfl⟩
      walk_at "rf"
      refine ⟨tyL (k7 _ _ ne2 q4), ?_⟩
      walk_at "rf"
      refine r_appE (k7 _ _ ne2 q4) sm fun H8 g8 f8 => ?_
      exact put H7 c y4 _ L7 k7 hc H8 g8 f8
  · rintro σ H4 ⟨L4, k4, hi2, ps, y3, y4, y5, hl, hp, g4, q4, rfl⟩
    walk_at "rf"
    refine r_toT (SqL.of q4) fun t H5 nt g5 s5 => ?_
    exact h t ps H5 g5 ⟨by omega, hp⟩ (L4.same s5) (k4.trans (Keep.of s5))
theorem ok__law_octets (F : FunD K "_law_octets" "_law_octets" (defArgs s__law_octets) (defBody s__law_octets) (defScope s__law_octets) [] [] (glAd "_law_octets" K) fd) (m : mg "_law_octets" = some (.ref (glAd "_law_octets" K))) (nb : Nm K mg) (c__law_next : Cal P w K mg base 1 "_law_next" (sp__law_next K) []) (c__law_many : Cal P w K mg base 2 "_law_many" (sp__law_many K) []) : Cal P w K mg base 3 "_law_octets" (sp__law_octets K) [] := by
  refine calD F m sc__law_octets (fun _ _ _ _ _ _ us hl => match us, hl with | [_], _ => rfl) len1 (fun cdv A outer s H vs Q E hr h => ⟨_, (pss_cons (ps_set (i := 1) sc__law_octets.nd rfl (Or.inl rfl) (pe_c c__law_many hr (by decide) rfl (pa_cons (pv 0) (pa_cons pe_int pa_nil))))
    (pss_cons (ps_asg (pe_ix ix_list (pe_lstE (pa_cons (pe_tupE (pa_cons pe_int (pa_cons pe_int pa_nil))) (pa_cons (pe_tupE (pa_cons pe_int (pa_cons pe_int pa_nil))) (pa_cons (pe_tupE (pa_cons pe_int (pa_cons pe_int pa_nil))) (pa_cons (pe_tupE (pa_cons pe_int (pa_cons pe_int pa_nil))) (pa_cons (pe_tupE (pa_cons pe_int (pa_cons pe_int pa_nil))) pa_nil)))))) (pe_c c__law_next hr (by decide) rfl (pa_cons (pv 0) (pa_cons pe_int pa_nil))) (fun _ _ => rfl)) (pg_tup rfl (pgs_cons (pg_name (i := 2) sc__law_octets.nd rfl (Or.inr rfl)) (pgs_cons (pg_name (i := 3) sc__law_octets.nd rfl (Or.inr rfl)) pgs_nil))))
    (pss_one (ps_ret (pe_callTy call_tuple_ofE (by rfl) nb.tuple (by decide +kernel) (pa_cons (pe_lc (own := [("k", 4)]) (g := gName 4) (tt := tYes) rfl sc__law_octets.nd (pi_range1 rfl nb.range (pa_cons (pv 1) pa_nil)) (blkOk_by (N := ["state", "many", "low", "span", "k"]) (sc := defScope s__law_octets) (by decide +kernel)) (fun _ _ _ _ _ => pg_name (i := 4) sc__law_octets.nd rfl (Or.inl rfl)) (fun _ _ _ _ _ => pts_nil) (fun _ _ _ _ _ => (pe_op op_add (pv 2) (pe_c c__law_next hr (by decide) rfl (pa_cons (pv 0) (pa_cons (pv 3) pa_nil)))))) pa_nil)))))), ?_⟩)
  obtain ⟨_, rfl, S, l, rfl, L, h⟩ := h
  walk_at "rf"
  refine ⟨_, _, rfl, S, l, 280, rfl, rfl, by decide, L, fun m H3 hm0 hm1 L3 k3 => ?_⟩
  walk_at "rf"
  refine ⟨by show 2 ≤ sizeLine; decide, fun t1 H4 n1 g1 s1 => ?_⟩
  walk_at "rf"
  refine ⟨by show 2 ≤ sizeLine; decide, fun t2 H5 n2 g2 s2 => ?_⟩
  walk_at "rf"
  refine ⟨by show 2 ≤ sizeLine; decide, fun t3 H6 n3 g3 s3 => ?_⟩
  walk_at "rf"
  refine ⟨by show 2 ≤ sizeLine; decide, fun t4 H7 n4 g4 s4 => ?_⟩
  walk_at "rf"
  refine ⟨by show 2 ≤ sizeLine; decide, fun t5 H8 n5 g5 s5 => ?_⟩
  walk_at "rf"
  refine ⟨by show 5 ≤ sizeLine; decide, fun p9 H9 n9 g9 s9 => ?_⟩
  have L9 := L3.same (((((s1.trans s2).trans s3).trans s4).trans s5).trans s9)
  have k9 := k3.trans (Keep.of (((((s1.trans s2).trans s3).trans s4).trans s5).trans s9))
  have ne9 := (L3.same ((((s1.trans s2).trans s3).trans s4).trans s5)).ne_free n9
  have G1 := s9 _ _ (s5 _ _ (s4 _ _ (s3 _ _ (s2 _ _ g1))))
  have G2 := s9 _ _ (s5 _ _ (s4 _ _ (s3 _ _ g2)))
  have G3 := s9 _ _ (s5 _ _ (s4 _ _ g3))
  have G4 := s9 _ _ (s5 _ _ g4)
  have G5 := s9 _ _ g5
  walk_at "rf"
  refine b_next L9 (by decide) fun r H10 a10 b10 L10 k10 => ?_
  have tk := keep_tk L9.ls k10
  obtain ⟨t, lo, sp, et, ht, hsp⟩ : ∃ t lo sp, atI [V.ref t1, .ref t2, .ref t3, .ref t4, .ref t5] r = some (V.ref t) ∧ H10 t = some (.tup [.int lo, .int sp]) ∧ 0 < sp := by
    have : r = 0 ∨ r = 1 ∨ r = 2 ∨ r = 3 ∨ r = 4 := by omega
    rcases this with e | e | e | e | e <;> subst e
    · exact ⟨t1, 0, 256, rfl, tk _ _ G1, by decide⟩
    · exact ⟨t2, 32, 95, rfl, tk _ _ G2, by decide⟩
    · exact ⟨t3, 97, 26, rfl, tk _ _ G3, by decide⟩
    · exact ⟨t4, 42, 49, rfl, tk _ _ G4, by decide⟩
    · exact ⟨t5, 48, 10, rfl, tk _ _ G5, by decide⟩
  have k10' := k9.trans k10
  refine r_ixL (SqL.of (k10 _ _ ne9 g9)) et ?_
  refine r_gtup (SqT.of ht) rfl ?_
  walk_at "rf"
  refine ⟨by omega, by omega, fun D nD => ?_⟩
  have DS := L10.ne_free nD
  have nD0 : H D = none := k10'.free L10.ls nD
  refine lc_range (fun i H' => LB K S l H' ∧ Keep S H H' ∧ i ≤ 279 ∧ ∃ cs : List Int, cs.length = i ∧ H' D = some (.lst (cs.map V.int))) ⟨L10.new nD _, k10'.trans (Keep.of (same_upd nD _)), Nat.zero_le _, [], rfl, upd_same⟩ ?_ ?_
  · rintro i H11 hi ⟨L11, k11, hi2, cs, e1, e2⟩
    walk_at "rf"
    refine ⟨rfl, ?_⟩
    walk_at "rf"
    refine b_next L11 hsp fun c H12 a12 b12 L12 k12 => ?_
    walk_at "rf"
    exact ⟨_, k12 _ _ DS e2, small1000 (by rw [List.length_map]; omega), L10.away nD L12 _, keep_away (k11.trans k12) nD0, by omega, cs ++ [lo + c], by rw [List.length_append, e1]; rfl, by rw [upd_same, map_snoc]⟩
  rintro H11 ⟨L11, k11, hi2, cs, e1, e2⟩
  walk_at "rf"
  refine r_toT (SqL.of e2) fun t H12 nt g12 s12 => ?_
  exact h t cs H12 g12 (by omega) (L11.same s12) (k11.trans (Keep.of s12))
theorem ok__law_number (F : FunD K "_law_number" "_law_number" (defArgs s__law_number) (defBody s__law_number) (defScope s__law_number) [] [] (glAd "_law_number" K) fd) (m : mg "_law_number" = some (.ref (glAd "_law_number" K))) (nb : Nm K mg) (c__law_next : Cal P w K mg base 1 "_law_next" (sp__law_next K) []) (c__law_big : Cal P w K mg base 2 "_law_big" (sp__law_big K) []) (c__law_normal : Cal P w K mg base 1 "_law_normal" sp__law_normal []) : Cal P w K mg base 3 "_law_number" (sp__law_number K) [] := by
  refine calD F m sc__law_number (fun _ _ _ _ _ _ us hl => match us, hl with | [_, _], _ => rfl) len2 (fun cdv A outer s H vs Q E hr h => ⟨_, (pss_cons (ps_set (i := 2) sc__law_number.nd rfl (Or.inl rfl) (pe_c c__law_next hr (by decide) rfl (pa_cons (pv 0) (pa_cons pe_int pa_nil))))
    (pss_cons (ps_set (i := 3) sc__law_number.nd rfl (Or.inl rfl) (pe_ix ix_list (pe_lstE (pa_cons pe_int (pa_cons (pe_un un_neg pe_int) pa_nil))) (pe_c c__law_next hr (by decide) rfl (pa_cons (pv 0) (pa_cons pe_int pa_nil))) (fun _ _ => rfl)))
    (pss_cons (ps_asg (pe_c c__law_normal hr (by decide) rfl (pa_cons (pe_op op_mul (pv 3) (pe_c c__law_next hr (by decide) rfl (pa_cons (pv 0) (pa_cons pe_int pa_nil)))) (pa_cons pe_int pa_nil))) (pg_tup rfl (pgs_cons (pg_name (i := 4) sc__law_number.nd rfl (Or.inl rfl)) (pgs_cons (pg_name (i := 5) sc__law_number.nd rfl (Or.inl rfl)) pgs_nil))))
    (pss_cut (ps_if (PW.pt (pw_and (pt_cmpR op_gt (pv 2) pe_int (nomark _)) (pw_and1 (pt_cmpR op_lt (pv 2) pe_int (nomark _)))))
    (pss_cons (ps_set (i := 6) sc__law_number.nd rfl (Or.inl rfl) (pe_ix ix_list (pe_lstE (pa_cons pe_int (pa_cons pe_int (pa_cons pe_int (pa_cons pe_int (pa_cons pe_int (pa_cons pe_int (pa_cons pe_int (pa_cons (pe_op op_pow pe_int pe_int) (pa_cons (pe_op op_pow pe_int pe_int) (pa_cons (pe_op op_pow pe_int pe_int) (pa_cons (pe_op op_pow pe_int pe_int) (pa_cons (pe_op op_pow pe_int pe_int) (pa_cons (pe_op op_pow pe_int pe_int) pa_nil)))))))))))))) (pe_c c__law_next hr (by decide) rfl (pa_cons (pv 0) (pa_cons pe_int pa_nil))) (fun _ _ => rfl)))
    (pss_one (ps_asg (pe_c c__law_normal hr (by decide) rfl (pa_cons (pe_op op_mul (pv 3) (pe_op op_sub (pe_op op_add (pv 6) (pe_c c__law_next hr (by decide) rfl (pa_cons (pv 0) (pa_cons pe_int pa_nil)))) pe_int)) (pa_cons pe_int pa_nil))) (pg_tup rfl (pgs_cons (pg_name (i := 4) sc__law_number.nd rfl (Or.inl rfl)) (pgs_cons (pg_name (i := 5) sc__law_number.nd rfl (Or.inl rfl)) pgs_nil))))))
    (pss_one (ps_if (PW.pt (pw_and (pt_cmpR op_gt (pv 2) pe_int (nomark _)) (pw_and1 (pt_cmpR op_lt (pv 2) pe_int (nomark _)))))
    (pss_one (ps_asg (pe_c c__law_normal hr (by decide) rfl (pa_cons (pe_op op_mul (pv 3) (pe_c c__law_next hr (by decide) rfl (pa_cons (pv 0) (pa_cons pe_int pa_nil)))) (pa_cons (pe_c c__law_next hr (by decide) rfl (pa_cons (pv 0) (pa_cons pe_int pa_nil))) pa_nil))) (pg_tup rfl (pgs_cons (pg_name (i := 4) sc__law_number.nd rfl (Or.inl rfl)) (pgs_cons (pg_name (i := 5) sc__law_number.nd rfl (Or.inl rfl)) pgs_nil)))))
    (pss_one (ps_if (PW.pt (pw_and (pt_cmpR op_eq (pv 2) pe_int (nomark _)) (pw_and1 (pt_cmpR op_gt (pe_ix ix_list (pv 0) pe_int (fun _ _ => rfl)) pe_int (nomark _)))))
    (pss_cons (ps_asg (pe_op op_sub (pe_ix ix_list (pv 0) pe_int (fun _ _ => rfl)) pe_int) (pg_sub (pv 0) pe_int set_list))
    (pss_one (ps_par (i := 4) (j := 5) rfl sc__law_number.nd rfl rfl (by decide) rfl rfl (pa_cons (pe_op op_mul (pv 3) (pe_op op_add pe_int (pe_op op_mul pe_int (pe_c c__law_next hr (by decide) rfl (pa_cons (pv 0) (pa_cons pe_int pa_nil)))))) (pa_cons (pe_op op_sub pe_int (pe_c c__law_next hr (by decide) rfl (pa_cons (pv 0) (pa_cons pe_int pa_nil)))) pa_nil)) rfl)))
    (pss_one (ps_if (pt_cmpR op_gt (pv 2) pe_int (nomark _))
    (pss_cons (ps_set (i := 7) sc__law_number.nd rfl (Or.inl rfl) pe_int)
    (pss_cons (ps_for PassesOwn.never rfl (pi_range1 rfl nb.range (pa_cons (pe_c c__law_next hr (by decide) rfl (pa_cons (pv 0) (pa_cons pe_int pa_nil))) pa_nil)) (pg_name (i := 8) sc__law_number.nd rfl (Or.inl rfl))
    (pss_one (ps_set (i := 7) sc__law_number.nd rfl (Or.inl rfl) (pe_op op_mul (pv 7) pe_int))))
    (pss_one (ps_asg (pe_c c__law_normal hr (by decide) rfl (pa_cons (pe_op op_mul (pv 3) (pe_c c__law_big hr (by decide) rfl (pa_cons (pv 0) (pa_cons (pv 7) pa_nil)))) (pa_cons (pe_c c__law_next hr (by decide) rfl (pa_cons (pv 0) (pa_cons pe_int pa_nil))) pa_nil))) (pg_tup rfl (pgs_cons (pg_name (i := 4) sc__law_number.nd rfl (Or.inl rfl)) (pgs_cons (pg_name (i := 5) sc__law_number.nd rfl (Or.inl rfl)) pgs_nil)))))))
    pss_nil)))))))
    (pss_cut (ps_if (pt_val (pv 1))
    (pss_cons (ps_set (i := 5) sc__law_number.nd rfl (Or.inl rfl) (pe_ix ix_list (pe_lstE (pa_cons pe_int (pa_cons pe_int (pa_cons (pe_un un_neg pe_int) (pa_cons (pe_op op_sub (pe_un un_neg pe_int) (pe_c c__law_next hr (by decide) rfl (pa_cons (pv 0) (pa_cons pe_int pa_nil)))) (pa_cons (pe_op op_add pe_int (pe_c c__law_next hr (by decide) rfl (pa_cons (pv 0) (pa_cons pe_int pa_nil)))) (pa_cons (pe_op op_pow pe_int pe_int) (pa_cons (pe_op op_pow pe_int pe_int) (pa_cons (pe_un un_neg (pe_op op_pow pe_int pe_int)) pa_nil))))))))) (pe_c c__law_next hr (by decide) rfl (pa_cons (pv 0) (pa_cons pe_int pa_nil))) (fun _ _ => rfl)))
    (pss_one (ps_set (i := 4) sc__law_number.nd rfl (Or.inl rfl) (pe_op op_mul (pv 3) (pe_op op_add pe_int (pe_op op_mul pe_int (pe_c c__law_next hr (by decide) rfl (pa_cons (pv 0) (pa_cons pe_int pa_nil)))))))))
    pss_nil)
    (pss_one (ps_ret (pe_tupE (pa_cons pe_str (pa_cons (pv 4) (pa_cons (pv 5) pa_nil))))))))))), ?_⟩)
  obtain ⟨_, _, rfl, S, l, far, rfl, rfl, L, h⟩ := h
  have e60 : (10 : Nat) ^ 60 = 1000000000000000000000000000000000000000000000000000000000000 := by decide
  have e100 : (10 : Nat) ^ 60 < 10 ^ 100 := by decide
  walk_at "rf"
  refine b_next L (by decide) fun pick H1 a1 b1 L1 k1 => ?_
  walk_at "rf"
  refine ⟨by show 2 ≤ sizeLine; decide, fun p2 H2 n2 g2 s2 => ?_⟩
  have L2 := L1.same s2
  have ne2 := L1.ne_free n2
  have k2 := k1.trans (Keep.of s2)
  walk_at "rf"
  refine b_next L2 (by decide) fun r3 H3 a3 b3 L3 k3 => ?_
  obtain ⟨sg, esg, hsg⟩ : ∃ sg : Int, atI [V.int 1, V.int (-1)] r3 = some (.int sg) ∧ (sg = 1 ∨ sg = -1) := by
    have : r3 = 0 ∨ r3 = 1 := by omega
    rcases this with e | e <;> subst e
    · exact ⟨1, rfl, .inl rfl⟩
    · exact ⟨-1, rfl, .inr rfl⟩
  refine r_ixL (SqL.of (k3 _ _ ne2 g2)) esg ?_
  have k3 := k2.trans k3
  clear L1 L2 k1 k2 s2 g2 n2 ne2
  have mulok : ∀ x : Int, sg * x = x ∨ sg * x = -x := fun x => by
    rcases hsg with e | e <;> subst e
    · exact .inl (Int.one_mul x)
    · exact .inr (by omega)
  walk_at "rf"
  refine b_next L3 (by decide) fun r4 H4 a4 b4 L4 k4 => ?_
  have k4 := k3.trans k4
  refine r_I (.inl ⟨by omega, by omega⟩) ?_
  walk_at "rf"
  have m4 := mulok r4
  refine ⟨_, _, rfl, sg * r4, 0, rfl, rfl, by omega, fun p5 m0 e0 H5 nr5 n5 g5 s5 => ?_⟩
  obtain ⟨nf0, hm0⟩ := nf_of (m := sg * r4) (e := 0) (by omega) (by decide) (by decide) nr5
  refine r_gtup (SqT.of g5) rfl ?_
  have L5 := L4.same s5
  have k5 := k4.trans (Keep.of s5)
  clear L3 L4 k3 k4 s5 g5 n5
  walk_at "rg"
  refine r_cut (MidN K S l H far pick sg) ?_ ?_
  · have base_ : MidN K S l H far pick sg [some (.ref S.a), some (.bl far), some (.int pick), some (.int sg), some (.int m0), some (.int e0), none, none, none] H5 := ⟨L5, k5, m0, e0, _, _, _, nf0, hm0, rfl⟩
    walk_at "rg"
    refine r_ifB (decide (pick > 3 ∧ pick < 6)) (fun R hR => ?_) ?_
    · walk_at "rf"
      refine r_ite (fun c => ?_) (fun c => ?_)
      · have e : decide (pick > 3 ∧ pick < 6) = decide (pick < 6) := decide_eq_decide.mpr ⟨And.right, fun q => ⟨c, q⟩⟩
        rw [e] at hR
        walk_at "rf"
        exact hR
      · rw [decide_eq_false (fun z => c z.1)] at hR
        exact hR
    refine r_ite (fun c => ?_) (fun c => ?_)
    · walk_at "rf"
      refine ⟨by show 13 ≤ sizeLine; decide, fun p6 H6 n6 g6 s6 => ?_⟩
      have g6 : H6 p6 = some (.lst (edges13.map V.int)) := g6
      have L6 := L5.same s6
      have ne6 := L5.ne_free n6
      walk_at "rf"
      refine b_next L6 (by decide) fun r7 H7 a7 b7 L7 k7 => ?_
      obtain ⟨v, hv, ev⟩ := atI_ints (ns := edges13) (k := r7) a7 b7
      have hv2 := edges13_in v hv
      have e30 : (10 : Int) ^ 30 = 1000000000000000000000000000000 := by decide
      rw [e30] at hv2
      refine r_ixL (SqL.of (k7 _ _ ne6 g6)) ev ?_
      have k7 := (k5.trans (Keep.of s6)).trans k7
      walk_at "rf"
      refine b_next L7 (by decide) fun r8 H8 a8 b8 L8 k8 => ?_
      walk_at "rf"
      refine r_I (.inl ⟨by omega, by omega⟩) ?_
      walk_at "rf"
      have m8 := mulok (v + r8 - 1)
      refine ⟨_, _, rfl, sg * (v + r8 - 1), 0, rfl, rfl, by omega, fun p9 m' e' H9 nr9 n9 g9 s9 => ?_⟩
      obtain ⟨nf1, hm1⟩ := nf_of (m := sg * (v + r8 - 1)) (e := 0) (by omega) (by decide) (by decide) nr9
      refine r_gtup (SqT.of g9) rfl ?_
      walk_at "rf"
      exact ⟨L8.same s9, (k7.trans k8).trans (Keep.of s9), _, _, _, _, _, nf1, hm1, rfl⟩
    walk_at "rg"
    refine r_ifB (decide (pick > 5 ∧ pick < 8)) (fun R hR => ?_) ?_
    · walk_at "rf"
      refine r_ite (fun c => ?_) (fun c => ?_)
      · have e : decide (pick > 5 ∧ pick < 8) = decide (pick < 8) := decide_eq_decide.mpr ⟨And.right, fun q => ⟨c, q⟩⟩
        rw [e] at hR
        walk_at "rf"
        exact hR
      · rw [decide_eq_false (fun z => c z.1)] at hR
        exact hR
    refine r_ite (fun c => ?_) (fun c => ?_)
    · walk_at "rf"
      refine b_next L5 (by decide) fun r7 H7 a7 b7 L7 k7 => ?_
      refine r_I (.inl ⟨by omega, by omega⟩) ?_
      walk_at "rf"
      refine b_next L7 (by decide) fun r8 H8 a8 b8 L8 k8 => ?_
      walk_at "rf"
      have m8 := mulok r7
      refine ⟨_, _, rfl, sg * r7, r8, rfl, rfl, by omega, fun p9 m' e' H9 nr9 n9 g9 s9 => ?_⟩
      obtain ⟨nf1, hm1⟩ := nf_of (m := sg * r7) (e := r8) (by omega) a8 (by omega) nr9
      refine r_gtup (SqT.of g9) rfl ?_
      walk_at "rf"
      exact ⟨L8.same s9, ((k5.trans k7).trans k8).trans (Keep.of s9), _, _, _, _, _, nf1, hm1, rfl⟩
    obtain ⟨kk, f5, e5⟩ := L5.at_
    walk_at "rg"
    refine r_ifB (decide (pick = 8 ∧ f5 > 0)) (fun R hR => ?_) ?_
    · walk_at "rf"
      refine r_ite (fun c => ?_) (fun c => ?_)
      · have e : decide (pick = 8 ∧ f5 > 0) = decide (f5 > 0) := decide_eq_decide.mpr ⟨And.right, fun q => ⟨c, q⟩⟩
        rw [e] at hR
        walk_at "rf"
        refine r_ixL (SqL.of e5) rfl ?_
        walk_at "rf"
        exact hR
      · rw [decide_eq_false (fun z => c z.1)] at hR
        exact hR
    refine r_ite (fun c => ?_) (fun c => ?_)
    · walk_at "rf"
      refine r_ixL (SqL.of e5) rfl ?_
      walk_at "rf"
      refine r_setL e5 rfl ?_
      walk_at "rf"
      have L6 := L5.put kk l (f5 - 1)
      have k6 := k5.trans (Keep.put (H := H5) (.lst [.ref S.nl, .int kk, .int l, .ref S.sl, .int (f5 - 1)]))
      refine b_next L6 (by decide) fun r7 H7 a7 b7 L7 k7 => ?_
      walk_at "rf"
      refine r_I (.inl ⟨by omega, by omega⟩) ?_
      walk_at "rf"
      refine b_next L7 (by decide) fun r8 H8 a8 b8 L8 k8 => ?_
      walk_at "rf"
      have m8 := mulok (1 + 10 * r7)
      have nfx : Nf (sg * (1 + 10 * r7)) (800 - r8) ∧ (sg * (1 + 10 * r7)).natAbs < 10 ^ 60 := ⟨.inr ⟨by omega, by omega, by omega⟩, by omega⟩
      exact ⟨L8, (k6.trans k7).trans k8, _, _, _, _, _, nfx.1, nfx.2, rfl⟩
    walk_at "rf"
    refine r_ite (fun c => ?_) (fun c => ?_)
    · walk_at "rf"
      refine b_next L5 (by decide) fun r7 H7 a7 b7 L7 k7 => ?_
      have k7 := k5.trans k7
      walk_at "rf"
      refine r_turns (by omega) (by omega) (fun i σ H' => H7 = H' ∧ i ≤ 24 ∧ ∃ (y8 : Option V), σ = [some (.ref S.a), some (.bl far), some (.int pick), some (.int sg), some (.int m0), some (.int e0), none, some (.int (10 ^ (i + 1))), y8]) ⟨rfl, Nat.zero_le _, none, rfl⟩ ?_ ?_
      · rintro i σ _ hi ⟨rfl, hi2, y8, rfl⟩
        walk_at "rf"
        exact ⟨rfl, by omega, _, rfl⟩
      · rintro σ _ ⟨rfl, hi2, y8, rfl⟩
        walk_at "rf"
        refine ⟨_, _, rfl, S, l, _, rfl, rfl, Int.pow_pos (by decide), L7, fun r8 H8 a8 b8 L8 k8 => ?_⟩
        have hr8 : r8.natAbs < 10 ^ 30 := by
          have h1 : (10 : Int) ^ (r7.toNat + 1) ≤ 10 ^ 30 := by
            have h2 := pow10_le (a := r7.toNat + 1) (b := 30) (by omega)
            exact_mod_cast h2
          have : (10 : Int) ^ 30 = ((10 ^ 30 : Nat) : Int) := by rw [Int.natCast_pow]; rfl
          omega
        have e30 : (10 : Nat) ^ 30 = 1000000000000000000000000000000 := by decide
        rw [e30] at hr8
        walk_at "rf"
        refine r_I (.inl ⟨by omega, by omega⟩) ?_
        walk_at "rf"
        refine b_next L8 (by decide) fun r9 H9 a9 b9 L9 k9 => ?_
        walk_at "rf"
        have m8 := mulok r8
        refine ⟨_, _, rfl, sg * r8, r9, rfl, rfl, by omega, fun pa m' e' Ha nra na ga sa => ?_⟩
        obtain ⟨nf1, hm1⟩ := nf_of (m := sg * r8) (e := r9) (by omega) a9 (by omega) nra
        refine r_gtup (SqT.of ga) rfl ?_
        walk_at "rf"
        exact ⟨L9.same sa, ((k7.trans k8).trans k9).trans (Keep.of sa), _, _, _, _, _, nf1, hm1, rfl⟩
    · walk_at "rf"
      exact base_
  · rintro σ H6 ⟨L6, k6, m, e, y6, y7, y8, nf, hm, rfl⟩
    walk_at "rf"
    refine r_cut (fun σ H' => LB K S l H' ∧ Keep S H H' ∧ ∃ (m e : Int) (y6 y7 y8 : Option V), (far = false → Nf m e ∧ m.natAbs < 10 ^ 60) ∧ (far = true → ¬ (0 ≤ e ∧ e ≤ 800)) ∧ σ = [some (.ref S.a), some (.bl far), some (.int pick), some (.int sg), some (.int m), some (.int e), y6, y7, y8]) ?_ ?_
    · cases far with
      | false =>
        walk_at "rf"
        exact ⟨L6, k6, m, e, y6, y7, y8, fun _ => ⟨nf, hm⟩, fun z => Bool.noConfusion z, rfl⟩
      | true =>
        walk_at "rf"
        refine b_next L6 (by decide) fun r7 H7 a7 b7 L7 k7 => ?_
        walk_at "rf"
        refine b_next L7 (by decide) fun r8 H8 a8 b8 L8 k8 => ?_
        walk_at "rf"
        refine ⟨by show 8 ≤ sizeLine; decide, fun p9 H9 n9 g9 s9 => ?_⟩
        have g9 : H9 p9 = some (.lst (([801, 802, -1, -2 - r7, 801 + r8, 10 ^ 12, 10 ^ 39, -(10 ^ 39)] : List Int).map V.int)) := g9
        have L9 := L8.same s9
        have ne9 := L8.ne_free n9
        walk_at "rf"
        refine b_next L9 (by decide) fun ra Ha aa ba La ka => ?_
        obtain ⟨v, hv, ev⟩ := atI_ints (ns := [801, 802, -1, -2 - r7, 801 + r8, 10 ^ 12, 10 ^ 39, -(10 ^ 39)]) (k := ra) aa ba
        have hv2 : ¬ (0 ≤ v ∧ v ≤ 800) := by
          simp only [List.mem_cons, List.not_mem_nil, or_false] at hv
          rcases hv with e | e | e | e | e | e | e | e <;> omega
        refine r_ixL (SqL.of (ka _ _ ne9 g9)) ev ?_
        walk_at "rf"
        refine b_next La (by decide) fun rb Hb ab bb Lb_ kb => ?_
        walk_at "rf"
        refine r_I (.inl ⟨by omega, by omega⟩) ?_
        walk_at "rf"
        exact ⟨Lb_, ((((k6.trans k7).trans k8).trans (Keep.of s9)).trans ka).trans kb, _, v, _, _, _, (fun z => Bool.noConfusion z), fun _ => hv2, rfl⟩
    · rintro σ H6 ⟨L6, k6, m, e, y6, y7, y8, nf, hf, rfl⟩
      walk_at "rf"
      refine ⟨by show 3 ≤ sizeLine; decide, fun q H7 nq g7 s7 => ?_⟩
      exact h (.ref q) m e H7 nf hf (.tup g7 (.cons (.str _) (.cons (.int _) (.cons (.int _) .nil)))) (L6.same s7) (k6.trans (Keep.of s7))
theorem ok__law_leaf (F : FunD K "_law_leaf" "_law_leaf" (defArgs s__law_leaf) (defBody s__law_leaf) (defScope s__law_leaf) [] [] (glAd "_law_leaf" K) fd) (m : mg "_law_leaf" = some (.ref (glAd "_law_leaf" K))) (nb : Nm K mg) (c__law_next : Cal P w K mg base 1 "_law_next" (sp__law_next K) []) (c__law_number : Cal P w K mg base 3 "_law_number" (sp__law_number K) []) (c__law_points : Cal P w K mg base 3 "_law_points" (sp__law_points K) []) (c__law_octets : Cal P w K mg base 3 "_law_octets" (sp__law_octets K) []) : Cal P w K mg base 4 "_law_leaf" (sp__law_leaf K) [] := by
  refine calD F m sc__law_leaf (fun _ _ _ _ _ _ us hl => match us, hl with | [_, _], _ => rfl) len2 (fun cdv A outer s H vs Q E hr h => ⟨_, (pss_cons (ps_set (i := 2) sc__law_leaf.nd rfl (Or.inl rfl) (pe_ix ix_list (pv 1) (pe_c c__law_next hr (by decide) rfl (pa_cons (pv 0) (pa_cons (pe_callB call_len_seq (by rfl) nb.len PySem.boot_len (pa_cons (pv 1) pa_nil)) pa_nil))) (fun _ _ => rfl)))
    (pss_cons (ps_if (pt_cmpR op_eq (pv 2) pe_str (nomark _))
    (pss_one (ps_ret (pe_tupE (pa_cons pe_str (pa_cons (pe_cmpR op_eq (pe_c c__law_next hr (by decide) rfl (pa_cons (pv 0) (pa_cons pe_int pa_nil))) pe_int (nomark _)) pa_nil)))))
    pss_nil)
    (pss_cons (ps_if (PW.pt (pw_or (pt_cmpR op_eq (pv 2) pe_str (nomark _)) (pw_or1 (pt_cmpR op_eq (pv 2) pe_str (nomark _)))))
    (pss_one (ps_ret (pe_c c__law_number hr (by decide) rfl (pa_cons (pv 0) (pa_cons (pe_cmpR op_eq (pv 2) pe_str (nomark _)) pa_nil)))))
    pss_nil)
    (pss_cons (ps_if (pt_cmpR op_eq (pv 2) pe_str (nomark _))
    (pss_one (ps_ret (pe_tupE (pa_cons pe_str (pa_cons (pe_c c__law_octets hr (by decide) rfl (pa_cons (pv 0) pa_nil)) pa_nil)))))
    pss_nil)
    (pss_cons (ps_if (pt_cmpR op_eq (pv 2) pe_str (nomark _))
    (pss_one (ps_ret (pe_tupE (pa_cons pe_str (pa_cons (pe_c c__law_points hr (by decide) rfl (pa_cons (pv 0) pa_nil)) pa_nil)))))
    pss_nil)
    (pss_one (ps_ret (pe_tupE (pa_cons pe_str pa_nil))))))))), ?_⟩)
  obtain ⟨_, _, rfl, S, l, kl, ks, rfl, rfl, hne, hk, ⟨ks0, ksl, ksm⟩, L, h⟩ := h
  walk_at "rf"
  refine ⟨kl, _, rfl, .inl (SqL.of hk), ?_⟩
  rw [List.length_map]
  walk_at "rf"
  refine b_next L (by omega) fun r1 H1 a1 b1 L1 k1 => ?_
  have hk1 := k1 _ _ hne hk
  have hr : r1.toNat < ks.length := by omega
  have er : r1 = ((r1.toNat : Nat) : Int) := by omega
  have ex : atI (ks.map V.str) r1 = some (V.str ks[r1.toNat]) := by
    have q := atI_nat (xs := ks.map V.str) (j := r1.toNat) (v := V.str ks[r1.toNat]) (by rw [List.getElem?_map, List.getElem?_eq_getElem hr]; rfl)
    rw [← er] at q
    exact q
  have hm : ks[r1.toNat] ∈ ks := List.getElem_mem hr
  generalize ks[r1.toNat] = kk at ex hm
  refine r_ixL (SqL.of hk1) ex ?_
  rcases ksm kk hm with e | e | e | e | e | e <;> subst e
  · walk_at "rf"
    refine r_iteN (show ¬ ("number" : Str) = "truth" by decide +kernel) ?_
    walk_at "rf"
    refine r_itep (show ("number" : Str) = "number" from rfl) ?_
    walk_at "rf"
    refine ⟨_, _, rfl, S, l, false, rfl, congrArg V.bl (decide_eq_false (show ¬ ("number" : Str) = "far" by decide +kernel)), L1, fun v m e H2 nf hf tp L2 k2 => ?_⟩
    exact h v "number" _ H2 (.of (.number m e (nf rfl).1 (nf rfl).2)) tp L2 (k1.trans k2)
  · walk_at "rf"
    refine r_iteN (show ¬ ("far" : Str) = "truth" by decide +kernel) ?_
    walk_at "rf"
    refine r_iteN (show ¬ ("far" : Str) = "number" by decide +kernel) ?_
    walk_at "rf"
    refine r_itep (show ("far" : Str) = "far" from rfl) ?_
    walk_at "rf"
    refine ⟨_, _, rfl, S, l, true, rfl, congrArg V.bl (decide_eq_true rfl), L1, fun v m e H2 nf hf tp L2 k2 => ?_⟩
    exact h v "number" _ H2 (.far m e (hf rfl)) tp L2 (k1.trans k2)
  · walk_at "rf"
    refine r_iteN (show ¬ ("bytes" : Str) = "truth" by decide +kernel) ?_
    walk_at "rf"
    refine r_iteN (show ¬ ("bytes" : Str) = "number" by decide +kernel) ?_
    walk_at "rf"
    refine r_iteN (show ¬ ("bytes" : Str) = "far" by decide +kernel) ?_
    walk_at "rf"
    refine r_itep (show ("bytes" : Str) = "bytes" from rfl) ?_
    walk_at "rf"
    refine ⟨_, rfl, S, l, rfl, L1, fun p os H2 g2 ho L2 k2 => ?_⟩
    walk_at "rf"
    refine ⟨by show 2 ≤ sizeLine; decide, fun q H3 nq g3 s3 => ?_⟩
    exact h (.ref q) "bytes" _ H3 (.of (.bytes os ho)) (.tup g3 (.cons (.str _) (.cons (tp_kd (s3 _ _ g2)) .nil))) (L2.same s3) ((k1.trans k2).trans (Keep.of s3))
  · walk_at "rf"
    refine r_iteN (show ¬ ("text" : Str) = "truth" by decide +kernel) ?_
    walk_at "rf"
    refine r_iteN (show ¬ ("text" : Str) = "number" by decide +kernel) ?_
    walk_at "rf"
    refine r_iteN (show ¬ ("text" : Str) = "far" by decide +kernel) ?_
    walk_at "rf"
    refine r_iteN (show ¬ ("text" : Str) = "bytes" by decide +kernel) ?_
    walk_at "rf"
    refine r_itep (show ("text" : Str) = "text" from rfl) ?_
    walk_at "rf"
    refine ⟨_, rfl, S, l, rfl, L1, fun p os H2 g2 ho L2 k2 => ?_⟩
    walk_at "rf"
    refine ⟨by show 2 ≤ sizeLine; decide, fun q H3 nq g3 s3 => ?_⟩
    exact h (.ref q) "text" _ H3 (.odd _ _ (by first | exact .inl rfl | exact .inr (.inl rfl) | exact .inr (.inr rfl))) (.tup g3 (.cons (.str _) (.cons (tp_kd (s3 _ _ g2)) .nil))) (L2.same s3) ((k1.trans k2).trans (Keep.of s3))
  · walk_at "rf"
    refine r_itep (show ("truth" : Str) = "truth" from rfl) ?_
    walk_at "rf"
    refine b_next L1 (by decide) fun r2 H2 a2 b2 L2 k2 => ?_
    walk_at "rf"
    refine ⟨by show 2 ≤ sizeLine; decide, fun q H3 nq g3 s3 => ?_⟩
    exact h (.ref q) "truth" [.bool (decide (r2 = 0))] H3 (.odd _ _ (by first | exact .inl rfl | exact .inr (.inl rfl) | exact .inr (.inr rfl))) (.tup g3 (.cons (.str _) (.cons (.bl _) .nil))) (L2.same s3) ((k1.trans k2).trans (Keep.of s3))
  · walk_at "rf"
    refine r_iteN (show ¬ ("null" : Str) = "truth" by decide +kernel) ?_
    walk_at "rf"
    refine r_iteN (show ¬ ("null" : Str) = "number" by decide +kernel) ?_
    walk_at "rf"
    refine r_iteN (show ¬ ("null" : Str) = "far" by decide +kernel) ?_
    walk_at "rf"
    refine r_iteN (show ¬ ("null" : Str) = "bytes" by decide +kernel) ?_
    walk_at "rf"
    refine r_iteN (show ¬ ("null" : Str) = "text" by decide +kernel) ?_
    walk_at "rf"
    refine ⟨by show 1 ≤ sizeLine; decide, fun q H3 nq g3 s3 => ?_⟩
    exact h (.ref q) "null" [] H3 (.odd _ _ (by first | exact .inl rfl | exact .inr (.inl rfl) | exact .inr (.inr rfl))) (.tup g3 (.cons (.str _) .nil)) (L1.same s3) (k1.trans (Keep.of s3))
theorem ok__law_value (n : Nat) (F : FunD K "_law_value" "_law_value" (defArgs s__law_value) (defBody s__law_value) (defScope s__law_value) [] [] (glAd "_law_value" K) fd) (m : mg "_law_value" = some (.ref (glAd "_law_value" K))) (nb : Nm K mg) (c__law_next : Cal P w K mg base 1 "_law_next" (sp__law_next K) []) (c__law_many : Cal P w K mg base 2 "_law_many" (sp__law_many K) []) (c__law_points : Cal P w K mg base 3 "_law_points" (sp__law_points K) []) (c__law_leaf : Cal P w K mg base 4 "_law_leaf" (sp__law_leaf K) []) (c__law_value : Cal P w K mg base (5 + n) "_law_value" (sp__law_value K n) []) : Cal P w K mg base (5 + n + 1) "_law_value" (sp__law_value K (n + 1)) [] := by
  refine calD F m sc__law_value (fun _ _ _ _ _ _ us hl => match us, hl with | [_, _, _, _], _ => rfl) len4 (fun cdv A outer s H vs Q E hr h => ⟨_, (pss_cons (ps_asg (pe_op op_sub (pe_ix ix_list (pv 0) pe_int (fun _ _ => rfl)) pe_int) (pg_sub (pv 0) pe_int set_list))
    (pss_cons (ps_set (i := 4) sc__law_value.nd rfl (Or.inl rfl) (pe_c c__law_next hr (by omega) rfl (pa_cons (pv 0) (pa_cons pe_int pa_nil))))
    (pss_cons (ps_if (PW.pt (pw_or (pt_cmpR op_eq (pv 1) pe_int (nomark _)) (pw_or (pt_cmpR op_le (pe_ix ix_list (pv 0) pe_int (fun _ _ => rfl)) pe_int (nomark _)) (pw_or1 (pt_cmpR op_lt (pv 4) pe_int (nomark _))))))
    (pss_one (ps_ret (pe_c c__law_leaf hr (by omega) rfl (pa_cons (pv 0) (pa_cons (pv 2) pa_nil)))))
    pss_nil)
    (pss_cons (ps_set (i := 5) sc__law_value.nd rfl (Or.inl rfl) (pe_c c__law_many hr (by omega) rfl (pa_cons (pv 0) (pa_cons pe_int pa_nil))))
    (pss_cons (ps_if (PW.pt (pw_or (pt_cmpR op_eq (pv 4) pe_int (nomark _)) (pw_or1 (pt_not (pt_val (pv 3))))))
    (pss_one (ps_ret (pe_tup (pa_cons pe_str (pa_cons (pe_callTy call_tuple_of (by rfl) nb.tuple (by decide +kernel) (pa_cons (pe_lc (own := [("k", 6)]) (g := gName 6) (tt := tYes) rfl sc__law_value.nd (pi_range1 rfl nb.range (pa_cons (pv 5) pa_nil)) (blkOk_by (N := ["state", "deep", "kinds", "has_maps", "pick", "many", "k", "entries", "key", "entry"]) (sc := defScope s__law_value) (by decide +kernel)) (fun _ _ _ _ _ => pg_name (i := 6) sc__law_value.nd rfl (Or.inl rfl)) (fun _ _ _ _ _ => pts_nil) (fun _ _ _ _ _ => (pe_c c__law_value hr (by omega) rfl (pa_cons (pv 0) (pa_cons (pe_op op_sub (pv 1) pe_int) (pa_cons (pv 2) (pa_cons (pv 3) pa_nil))))))) pa_nil)) pa_nil)))))
    pss_nil)
    (pss_cons (ps_set (i := 7) sc__law_value.nd rfl (Or.inl rfl) (pe_lst pa_nil))
    (pss_cons (ps_for PassesOwn.never rfl (pi_range1 rfl nb.range (pa_cons (pv 5) pa_nil)) (pg_name (i := 6) sc__law_value.nd rfl (Or.inl rfl))
    (pss_cons (ps_set (i := 8) sc__law_value.nd rfl (Or.inl rfl) (pe_c c__law_points hr (by omega) rfl (pa_cons (pv 0) pa_nil)))
    (pss_one (ps_if (pt_cmpR (op_notInD (hu65 hr)) (pv 8) (pe_lc (own := [("entry", 9)]) (g := gName 9) (tt := tYes) rfl sc__law_value.nd (pi_list (pv 7)) (blkOk_by (N := ["state", "deep", "kinds", "has_maps", "pick", "many", "k", "entries", "key", "entry"]) (sc := defScope s__law_value) (by decide +kernel)) (fun _ _ _ _ _ => pg_name (i := 9) sc__law_value.nd rfl (Or.inl rfl)) (fun _ _ _ _ _ => pts_nil) (fun _ _ _ _ _ => (pe_ix (show IxR _ (rIxT K) from ix_tup) (pv 9) pe_int (fun _ _ => rfl)))) rfl)
    (pss_one (ps_expr (pe_bm PySem.F.plainAttrs_list PySem.F.slot_list_append PySem.F.type_list_append mt_append (pv 7) (pa_cons (pe_tup (pa_cons (pv 8) (pa_cons (pe_c c__law_value hr (by omega) rfl (pa_cons (pv 0) (pa_cons (pe_op op_sub (pv 1) pe_int) (pa_cons (pv 2) (pa_cons (pv 3) pa_nil))))) pa_nil))) pa_nil))))
    pss_nil))))
    (pss_one (ps_ret (pe_tup (pa_cons pe_str (pa_cons (pe_callTy call_tuple_of (by rfl) nb.tuple (by decide +kernel) (pa_cons (pe_callB (cr_sortedE hr.units) (by rfl) nb.sorted (by decide +kernel) (pa_cons (pv 7) pa_nil)) pa_nil)) pa_nil)))))))))))), ?_⟩)
  obtain ⟨_, _, _, _, rfl, S, l0, deep, kl, ks, mp, rfl, rfl, rfl, rfl, hkn, hk, hks, hd, L, h⟩ := h
  obtain ⟨k0, f5, e⟩ := L.at_
  walk_at "rd"
  refine r_ixL (SqL.of e) rfl ?_
  walk_at "rd"
  refine r_setL e rfl ?_
  walk_at "rd"
  have L1 := L.put k0 (l0 - 1) f5
  have kk1 : Keep S H (upd H S.a (.lst [.ref S.nl, .int k0, .int (l0 - 1), .ref S.sl, .int f5])) := Keep.put _
  refine b_next L1 (by decide) fun pick H2 a2 b2 L2 k2 => ?_
  have k2 := kk1.trans k2
  clear L1 kk1
  obtain ⟨k0', f5', e2⟩ := L2.at_
  walk_at "ri"
  refine r_ifB (decide (deep = 0 ∨ l0 - 1 ≤ 0 ∨ pick < 2)) ?_ ?_
  · intro R hR
    walk_at "rd"
    refine r_ite (fun c => ?_) (fun c => ?_)
    · walk_at "rd"
      rw [decide_eq_true (.inl (by omega))] at hR
      exact hR
    walk_at "rd"
    refine r_ixL (SqL.of e2) rfl ?_
    walk_at "rd"
    refine r_ite (fun c2 => ?_) (fun c2 => ?_)
    · walk_at "rd"
      rw [decide_eq_true (.inr (.inl c2))] at hR
      exact hR
    walk_at "rd"
    have ed : decide (pick < 2) = decide (deep = 0 ∨ l0 - 1 ≤ 0 ∨ pick < 2) := decide_eq_decide.mpr ⟨fun q => .inr (.inr q), fun q => by omega⟩
    rw [ed]
    exact hR
  refine r_ite (fun c => ?_) (fun c => ?_)
  · walk_at "rd"
    exact ⟨_, _, rfl, S, _, kl, ks, rfl, rfl, hkn, k2 _ _ hkn hk, hks, L2, fun v k r H3 hl hv L3 k3 => h v (.lf k r) _ H3 (gf_leaf hl _) (bud_leaf (Nat.le_refl _)) hv L3 (k2.trans k3)⟩
  obtain ⟨deep, rfl⟩ : ∃ d, deep = d + 1 := ⟨deep - 1, by omega⟩
  have ed : ((deep + 1 : Nat) : Int) - 1 = ((deep : Nat) : Int) := by omega
  have hl0 : 0 < l0 - 1 := by omega
  clear e2
  walk_at "rd"
  refine ⟨_, _, rfl, S, _, 30, rfl, rfl, by decide, L2, fun m H4 hm0 hm1 L4 k4 => ?_⟩
  have k4 := k2.trans k4
  clear L2 k2
  walk_at "ri"
  refine r_ifB (decide (pick = 2 ∨ mp = false)) (fun R hR => ?_) ?_
  · walk_at "rd"
    refine r_ite (fun c => ?_) (fun c => ?_)
    · rw [decide_eq_true (.inl c)] at hR
      exact hR
    · have e : decide (pick = 2 ∨ mp = false) = !mp := by
        cases mp
        · exact decide_eq_true (.inr rfl)
        · exact decide_eq_false (fun z => z.elim c fun z => by cases z)
      rw [e] at hR
      walk_at "rd"
      exact hR
  refine r_ite (fun c => ?_) (fun c => ?_)
  · walk_at "rd"
    refine ⟨by omega, by omega, fun D nD => ?_⟩
    have DS := L4.ne_free nD
    have nD0 : H D = none := k4.free L4.ls nD
    refine lc_range (fun i H' => ∃ l' : Int, LB K S l' H' ∧ Keep S H H' ∧ ∃ (vs : List V) (ts : List Vl), ts.length = i ∧ BudL (l0 - 1) l' (vszL ts) i ∧ gfL deep ts ∧ TpAll H' vs (datL ts) ∧ H' D = some (.lst vs)) ⟨_, L4.new nD _, k4.trans (Keep.of (same_upd nD _)), [], [], rfl, budL_nil _, trivial, .nil, upd_same⟩ ?_ ?_
    · rintro i H5 hi ⟨l1, L5, k5, vs, ts, e1, eb, e2, e3, e4⟩
      walk_at "rd"
      refine ⟨rfl, ?_⟩
      walk_at "rd"
      refine ⟨_, _, _, _, rfl, S, l1, deep, kl, ks, mp, rfl, congrArg V.int ed, rfl, rfl, hkn, k5 _ _ hkn hk, hks, by omega, L5, fun v t l2 H6 ok bd tp L6 k6 => ?_⟩
      have hD6 := k6 _ _ DS e4
      have hl : vs.length = i := by rw [tpAll_len e3, datL_map, List.length_map, e1]
      have tk6 := (keep_tk L5.ls k6).trans (tk_put (o := .lst (vs ++ [v])) hD6)
      refine ⟨vs, hD6, small1000 (by omega), l2, L4.away nD L6 _, keep_away (k5.trans k6) nD0, vs ++ [v], ts ++ [t], by rw [List.length_append, e1]; rfl, by rw [vszL_app]; exact budL_cons eb bd, gfL_app e2 ⟨ok, trivial⟩, ?_, upd_same⟩
      rw [datL_app]
      exact tpAll_app (TpAll.tk tk6 _ _ e3) (.cons (Tp.tk (tk_put hD6) _ _ tp) .nil)
    · rintro H5 ⟨l1, L5, k5, vs, ts, e1, eb, e2, e3, e4⟩
      walk_at "rd"
      refine ⟨D, _, rfl, .inl ⟨SqL.of e4, fun t nt => ?_⟩⟩
      walk_at "rd"
      refine ⟨by show 2 ≤ sizeLine; decide, fun q nq => ?_⟩
      have s7 := (same_upd nt (.tup vs)).trans (same_upd nq (.tup [.str "list", .ref t]))
      refine h (.ref q) (.ls ts) _ _ ⟨by omega, e2⟩ (bud_node hl0 (by omega) eb) (.tup upd_same (.cons (.str _) (.cons (.tup (same_upd nq _ _ _ upd_same) (TpAll.tk (Same.tk s7) _ _ e3)) .nil))) (L5.same s7) (k5.trans (Keep.of s7))
  · skip
    walk_at "rd"
    refine ⟨Nat.zero_le _, fun D nD => ?_⟩
    have DS := L4.ne_free nD
    have nD0 : H D = none := k4.free L4.ls nD
    walk_at "rd"
    refine r_turns (by omega) (by omega) (fun i σ H' => ∃ l' : Int, LB K S l' H' ∧ Keep S H H' ∧ ∃ (es : List (Ent × Vl)) (y4 y6 y7 : Option V), es.length ≤ i ∧ BudL (l0 - 1) l' ((es.map fun e => vsz e.2).sum) es.length ∧ (∀ e ∈ es, EvF H' deep e) ∧ (es.map (·.1.k)).Nodup ∧ H' D = some (.lst (es.map fun e => V.ref e.1.t)) ∧ σ = [some (.ref S.a), some (.int (deep + 1 : Nat)), some (.ref kl), some (.bl mp), some (.int pick), some (.int m), y4, some (.ref D), y6, y7])
      ⟨_, L4.new nD _, k4.trans (Keep.of (same_upd nD _)), [], _, _, _, Nat.le_refl _, budL_nil _, fun _ h => absurd h (by simp), List.nodup_nil, upd_same, rfl⟩ ?_ ?_
    · rintro i σ H5 hi ⟨l1, L5, k5, es, y4, y6, y7, e1, eb, e2, e3, e4, rfl⟩
      walk_at "rd"
      refine ⟨_, rfl, S, l1, rfl, L5, fun q ps H6 hq hpl L6 k6 => ?_⟩
      have hD6 := k6 _ _ DS e4
      have e2 : ∀ e ∈ es, EvF H6 deep e := fun e he => (e2 e he).tk (keep_tk L5.ls k6)
      have k6 := k5.trans k6
      clear L5 k5 e4
      walk_at "rd"
      refine ⟨D, rfl, ⟨_, SqL.of hD6⟩, fun D2 nD2 => ?_⟩
      refine lc_list (xs := es.map fun e => V.ref e.1.t) (fun j H' => Same H6 H' ∧ H' D2 = some (.lst ((es.take j).map fun e => V.ref e.1.q))) ⟨same_upd nD2 _, upd_same⟩ (fun j H' _ hh => SqL.of (hh.1 _ _ hD6)) ?_ ?_
      · rintro j x H7 hx ⟨s7, g7⟩
        obtain ⟨en, hj, rfl, et⟩ := map_get hx
        walk_at "rd"
        refine ⟨rfl, ?_⟩
        walk_at "rd"
        refine r_ixT (SqT.of (s7 _ _ (e2 en (List.mem_of_getElem? hj)).1.1)) rfl ?_
        refine ⟨_, g7, small1000 (by rw [List.length_map, List.length_take]; omega), same_away s7 nD2, ?_⟩
        rw [upd_same, et, List.map_append]
        rfl
      rintro H7 ⟨s7, g7⟩
      rw [List.length_map, List.take_length] at g7
      have L7 := L6.same s7
      have k7 := k6.trans (Keep.of s7)
      have hD7 := s7 _ _ hD6
      have hq7 := s7 _ _ hq
      have e2 : ∀ e ∈ es, EvF H7 deep e := fun e he => (e2 e he).tk (Same.tk s7)
      clear L6 k6 hD6 hq s7
      refine ⟨kd ps, (es.map (·.1.k)).map kd, Tp.dp _ _ (tp_kd hq7), .lst (SqL.of g7) ?_, shaped_kd ps, shaped_kds _, ?_⟩
      · rw [List.map_map]
        exact dpa_map fun e he => Tp.dp _ _ (tp_kd (e2 e he).1.2)
      rw [eqv_kds]
      refine r_bl (r_iten (fun c => ?_) (fun c => ?_))
      · walk_at "rd"
        refine ⟨tyL hD7, ?_⟩
        walk_at "rd"
        refine ⟨_, _, _, _, rfl, S, l1, deep, kl, ks, mp, rfl, congrArg V.int ed, rfl, rfl, hkn, k7 _ _ hkn hk, hks, by omega, L7, fun v t l2 H8 ok bd tp L8 k8 => ?_⟩
        obtain ⟨u, rfl⟩ := vl_ref tp
        have tk8 := keep_tk L7.ls k8
        have hD8 := k8 _ _ DS hD7
        walk_at "rd"
        refine ⟨by show 2 ≤ sizeLine; decide, fun T nT => ?_⟩
        have s9 := same_upd nT (.tup [.ref q, .ref u])
        have hD9 := s9 _ _ hD8
        have L9 := L8.new nT (.tup [.ref q, .ref u])
        walk_at "rd"
        refine r_app hD9 (small1000 (by rw [List.length_map]; omega)) ?_
        have tk9 := (Same.tk s9).trans (tk_put (o := .lst ((es.map fun e => V.ref e.1.t) ++ [.ref T])) hD9)
        refine ⟨l2, L4.away nD L9 _, keep_away ((k7.trans k8).trans (Keep.of s9)) nD0, es ++ [(⟨T, q, u, ps⟩, t)], _, _, _, by rw [List.length_append]; show es.length + 1 ≤ i + 1; omega, ?_, fun e he => ?_, ?_, ?_, rfl⟩
        · rw [List.map_append, List.sum_append, List.length_append]
          exact budL_cons eb bd
        · rcases List.mem_append.mp he with q1 | q1
          · exact (e2 e q1).tk (tk8.trans tk9)
          · have e5 : e = (⟨T, q, u, ps⟩, t) := by simpa using q1
            subst e5
            exact ⟨⟨tk_put hD9 _ _ upd_same, tk9 _ _ (tk8 _ _ hq7)⟩, Tp.tk tk9 _ _ tp, ok, hpl⟩
        · rw [List.map_append, List.nodup_append]
          refine ⟨e3, by simp, ?_⟩
          intro a ha b hb
          have eb : b = ps := by simpa using hb
          rw [eb]
          exact fun z => c (z ▸ ha)
        · rw [upd_same, List.map_append]
          rfl
      · walk_at "rd"
        exact ⟨l1, L7, k7, es, _, _, _, by omega, eb, e2, e3, hD7, rfl⟩
    · rintro σ H5 ⟨l1, L5, k5, es, y4, y6, y7, e1, eb, e2, e3, e4, rfl⟩
      walk_at "rd"
      refine ⟨D, es.map (·.1), rfl, ?_, fun e he => ?_, ?_, fun es' l' pe srt nl => ?_⟩
      · rw [List.map_map]
        exact SqL.of e4
      · obtain ⟨x, hx, rfl⟩ := List.mem_map.mp he
        exact (e2 x hx).1
      · rw [List.map_map]
        exact e3
      obtain ⟨zs, pz, rfl⟩ := perm_up (fun e : Ent × Vl => e.1) pe
      walk_at "rd"
      refine ⟨l', _, rfl, .inl ⟨SqL.of upd_same, fun t nt => ?_⟩⟩
      walk_at "rd"
      refine ⟨by show 2 ≤ sizeLine; decide, fun q nq => ?_⟩
      have s7 := ((same_upd nl (.lst ((zs.map fun e => e.1).map fun e => V.ref e.t))).trans (same_upd nt (.tup ((zs.map fun e => e.1).map fun e => V.ref e.t)))).trans (same_upd nq (.tup [.str "map", .ref t]))
      have e7 : ∀ e ∈ zs, EvF _ deep e := fun e he => (e2 e (pz.mem_iff.mp he)).tk (Same.tk s7)
      have ezl := pz.length_eq
      have ezs : (zs.map fun e => vsz e.2).sum = (es.map fun e => vsz e.2).sum := (pz.map _).sum_nat
      refine h (.ref q) (.mp (zs.map fun e => (e.1.k, e.2))) _ _ ⟨?_, ?_, ?_, ?_⟩ ?_ (.tup upd_same (.cons (.str _) (.cons (.tup (same_upd nq _ _ _ upd_same) ?_) .nil))) (L5.same s7) (k5.trans (Keep.of s7))
      · rw [List.length_map, ezl]
        omega
      · rw [List.map_map] at srt ⊢
        exact srt
      · intro e he
        obtain ⟨x, hx, rfl⟩ := List.mem_map.mp he
        exact (e7 x hx).2.2.2
      · refine gfM_of fun e he => ?_
        obtain ⟨x, hx, rfl⟩ := List.mem_map.mp he
        exact (e7 x hx).2.2.1
      · show Bud l0 l1 (1 + vszM (zs.map fun e => (e.1.k, e.2)))
        rw [vszM_sum, List.length_map, List.map_map, ezl]
        have ez2 : (zs.map ((fun e : List Int × Vl => vsz e.2) ∘ fun e : Ent × Vl => (e.1.k, e.2))).sum = (es.map fun e => vsz e.2).sum := ezs
        rw [ez2]
        exact bud_map hl0 (by omega) eb
      · exact tpa_entF e7
theorem rec__law_value (F : FunD K "_law_value" "_law_value" (defArgs s__law_value) (defBody s__law_value) (defScope s__law_value) [] [] (glAd "_law_value" K) fd) (m : mg "_law_value" = some (.ref (glAd "_law_value" K))) (nb : Nm K mg) (c__law_next : Cal P w K mg base 1 "_law_next" (sp__law_next K) []) (c__law_many : Cal P w K mg base 2 "_law_many" (sp__law_many K) []) (c__law_points : Cal P w K mg base 3 "_law_points" (sp__law_points K) []) (c__law_leaf : Cal P w K mg base 4 "_law_leaf" (sp__law_leaf K) []) : ∀ n, Cal P w K mg base (5 + n) "_law_value" (sp__law_value K n) []
  | 0 => calD (k := 4) F m sc__law_value (fun _ _ _ _ _ _ us hl => match us, hl with | [_, _, _, _], _ => rfl) (fun _ _ _ _ h => (no__law_value h).elim) (fun _ _ _ _ _ _ _ _ _ h => (no__law_value h).elim)
  | n + 1 => ok__law_value n F m nb c__law_next c__law_many c__law_points c__law_leaf (rec__law_value F m nb c__law_next c__law_many c__law_points c__law_leaf n)
theorem ok__law_towered (F : FunD K "_law_towered" "_law_towered" (defArgs s__law_towered) (defBody s__law_towered) (defScope s__law_towered) [] [] (glAd "_law_towered" K) fd) (m : mg "_law_towered" = some (.ref (glAd "_law_towered" K))) (nb : Nm K mg) (c__law_next : Cal P w K mg base 1 "_law_next" (sp__law_next K) []) : Cal P w K mg base 2 "_law_towered" (sp__law_towered K) [] := by
  refine calD F m sc__law_towered (fun _ _ _ _ _ _ us hl => match us, hl with | [_, _, _], _ => rfl) len3 (fun cdv A outer s H vs Q E hr h => ⟨_, (pss_cut (ps_if (pt_cmpR op_eq (pe_c c__law_next hr (by decide) rfl (pa_cons (pv 0) (pa_cons pe_int pa_nil))) pe_int (nomark _))
    (pss_one (ps_for PassesOwn.never rfl (pi_range1 rfl nb.range (pa_cons (pe_c c__law_next hr (by decide) rfl (pa_cons (pv 0) (pa_cons pe_int pa_nil))) pa_nil)) (pg_name (i := 3) sc__law_towered.nd rfl (Or.inl rfl))
    (pss_cons (ps_set (i := 4) sc__law_towered.nd rfl (Or.inl rfl) (pe_c c__law_next hr (by decide) rfl (pa_cons (pv 0) (pa_cons pe_int pa_nil))))
    (pss_one (ps_if (PW.pt (pw_and (pt_cmpR op_eq (pv 4) pe_int (nomark _)) (pw_and1 (pt_val (pv 2)))))
    (pss_one (ps_set (i := 1) sc__law_towered.nd rfl (Or.inl rfl) (pe_tup (pa_cons pe_str (pa_cons (pe_tup (pa_cons (pe_tup (pa_cons (pe_tup (pa_cons pe_int pa_nil)) (pa_cons (pv 1) pa_nil))) pa_nil)) pa_nil)))))
    (pss_one (ps_if (pt_cmpR op_eq (pv 4) pe_int (nomark _))
    (pss_one (ps_set (i := 1) sc__law_towered.nd rfl (Or.inl rfl) (pe_tup (pa_cons pe_str (pa_cons (pe_tup (pa_cons (pv 1) (pa_cons (pe_tup (pa_cons pe_str (pa_cons (pe_tup pa_nil) pa_nil))) pa_nil))) pa_nil)))))
    (pss_one (ps_set (i := 1) sc__law_towered.nd rfl (Or.inl rfl) (pe_tup (pa_cons pe_str (pa_cons (pe_tup (pa_cons (pv 1) pa_nil)) pa_nil))))))))))))
    pss_nil)
    (pss_one (ps_ret (pv 1)))), ?_⟩)
  obtain ⟨_, v, _, rfl, S, l, t, mp, rfl, rfl, L, tp, ok, h⟩ := h
  walk_at "rd"
  refine r_cut (fun σ H' => LB K S l H' ∧ Keep S H H' ∧ ∃ (v : V) (t' : Vl) (n : Nat) (y2 y3 : Option V), n ≤ 24 ∧ t'.gf n ∧ vsz t' ≤ vsz t + 40 ∧ Tp H' v t'.dat ∧ σ = [some (.ref S.a), some v, some (.bl mp), y2, y3]) ?_ ?_
  · walk_at "rd"
    refine b_next L (by decide) fun r1 H1 a1 b1 L1 k1 => ?_
    have tp := Tp.tk (keep_tk L.ls k1) _ _ tp
    walk_at "rd"
    refine r_ite (fun c => ?_) (fun c => ?_)
    · walk_at "rd"
      refine b_next L1 (by decide) fun r2 H2 a2 b2 L2 k2 => ?_
      have tp := Tp.tk (keep_tk L1.ls k2) _ _ tp
      have k2 := k1.trans k2
      walk_at "rd"
      refine r_turns (by omega) (by omega) (fun i σ H' => LB K S l H' ∧ Keep S H H' ∧ ∃ (v : V) (t' : Vl) (y2 y3 : Option V), i ≤ 20 ∧ t'.gf (4 + i) ∧ vsz t' ≤ vsz t + 2 * i ∧ Tp H' v t'.dat ∧ σ = [some (.ref S.a), some v, some (.bl mp), y2, y3]) ⟨L2, k2, v, t, _, _, Nat.zero_le _, ok, Nat.le_refl _, tp, rfl⟩ ?_ ?_
      · rintro i σ H3 hi ⟨L3, k3, v, t', y2, y3, hi2, ok3, sz3, tp3, rfl⟩
        walk_at "rd"
        refine b_next L3 (by decide) fun r4 H4 a4 b4 L4 k4 => ?_
        have tp4 := Tp.tk (keep_tk L3.ls k4) _ _ tp3
        have k4 := k3.trans k4
        walk_at "ri"
        refine r_ifB (decide (r4 = 0 ∧ mp = true)) (fun R hR => ?_) ?_
        · walk_at "rd"
          refine r_ite (fun c => ?_) (fun c => ?_)
          · have e : decide (r4 = 0 ∧ mp = true) = mp := by
              cases mp
              · exact decide_eq_false fun z => by cases z.2
              · exact decide_eq_true ⟨c, rfl⟩
            rw [e] at hR
            walk_at "rd"
            exact hR
          · rw [decide_eq_false (fun z => c z.1)] at hR
            exact hR
        refine r_ite (fun c => ?_) (fun c => ?_)
        · walk_at "rd"
          refine ⟨by show 1 ≤ sizeLine; decide, fun p5 n5 => ?_⟩
          obtain ⟨H5, e, L5, s5, g5⟩ := new_b (o := .tup [.int 97]) L4 n5
          rw [e]
          clear e
          walk_at "rd"
          refine ⟨by show 2 ≤ sizeLine; decide, fun p6 n6 => ?_⟩
          obtain ⟨H6, e, L6, s6, g6⟩ := new_b (o := .tup [.ref p5, v]) L5 n6
          rw [e]
          clear e
          walk_at "rd"
          refine ⟨by show 1 ≤ sizeLine; decide, fun p7 n7 => ?_⟩
          obtain ⟨H7, e, L7, s7, g7⟩ := new_b (o := .tup [.ref p6]) L6 n7
          rw [e]
          clear e
          walk_at "rd"
          refine ⟨by show 2 ≤ sizeLine; decide, fun p8 n8 => ?_⟩
          obtain ⟨H8, e, L8, s8, g8⟩ := new_b (o := .tup [.str "map", .ref p7]) L7 n8
          rw [e]
          clear e
          walk_at "rd"
          have sa := (s5.trans s6).trans (s7.trans s8)
          have tpv : Tp H8 v t'.dat := Tp.tk (Same.tk sa) _ _ tp4
          refine ⟨L8, k4.trans (Keep.of sa), .ref p8, .mp [([97], t')], _, _, by omega, ⟨by show 1 ≤ 49; decide, List.pairwise_singleton _ _, fun e he => ?_, ok3, trivial⟩, by show 1 + (1 + vsz t' + 0) ≤ _; omega, .tup g8 (.cons (.str _) (.cons (.tup (s8 _ _ g7) (.cons (.tup ((s7.trans s8) _ _ g6) (.cons (tp_kd ((s6.trans (s7.trans s8)) _ _ g5)) (.cons tpv .nil))) .nil)) .nil)), rfl⟩
          rw [List.mem_singleton.mp he]
          exact ⟨by show 1 ≤ 200; decide, fun p hp => by
            rw [List.mem_singleton.mp hp]
            exact ⟨by decide, by decide, .inl (by decide)⟩⟩
        walk_at "rd"
        refine r_ite (fun c => ?_) (fun c => ?_)
        · walk_at "rd"
          refine ⟨Nat.zero_le _, fun p5 n5 => ?_⟩
          obtain ⟨H5, e, L5, s5, g5⟩ := new_b (o := .tup []) L4 n5
          rw [e]
          clear e
          walk_at "rd"
          refine ⟨by show 2 ≤ sizeLine; decide, fun p6 n6 => ?_⟩
          obtain ⟨H6, e, L6, s6, g6⟩ := new_b (o := .tup [.str "list", .ref p5]) L5 n6
          rw [e]
          clear e
          walk_at "rd"
          refine ⟨by show 2 ≤ sizeLine; decide, fun p7 n7 => ?_⟩
          obtain ⟨H7, e, L7, s7, g7⟩ := new_b (o := .tup [v, .ref p6]) L6 n7
          rw [e]
          clear e
          walk_at "rd"
          refine ⟨by show 2 ≤ sizeLine; decide, fun p8 n8 => ?_⟩
          obtain ⟨H8, e, L8, s8, g8⟩ := new_b (o := .tup [.str "list", .ref p7]) L7 n8
          rw [e]
          clear e
          walk_at "rd"
          have sa := (s5.trans s6).trans (s7.trans s8)
          have tpv : Tp H8 v t'.dat := Tp.tk (Same.tk sa) _ _ tp4
          have okE : (Vl.ls []).gf (4 + i) := by
            rw [Nat.add_comm]
            exact ⟨Nat.zero_le _, trivial⟩
          exact ⟨L8, k4.trans (Keep.of sa), .ref p8, .ls [t', .ls []], _, _, by omega, ⟨by show 2 ≤ 49; decide, ok3, okE, trivial⟩, by show 1 + (vsz t' + (1 + 0 + 0)) ≤ _; omega, .tup g8 (.cons (.str _) (.cons (.tup (s8 _ _ g7) (.cons tpv (.cons (.tup ((s7.trans s8) _ _ g6) (.cons (.str _) (.cons (.tup ((s6.trans (s7.trans s8)) _ _ g5) .nil) .nil))) .nil))) .nil)), rfl⟩
        · walk_at "rd"
          refine ⟨by show 1 ≤ sizeLine; decide, fun p7 n7 => ?_⟩
          obtain ⟨H7, e, L7, s7, g7⟩ := new_b (o := .tup [v]) L4 n7
          rw [e]
          clear e
          walk_at "rd"
          refine ⟨by show 2 ≤ sizeLine; decide, fun p8 n8 => ?_⟩
          obtain ⟨H8, e, L8, s8, g8⟩ := new_b (o := .tup [.str "list", .ref p7]) L7 n8
          rw [e]
          clear e
          walk_at "rd"
          have sa := s7.trans s8
          have tpv : Tp H8 v t'.dat := Tp.tk (Same.tk sa) _ _ tp4
          exact ⟨L8, k4.trans (Keep.of sa), .ref p8, .ls [t'], _, _, by omega, ⟨by show 1 ≤ 49; decide, ok3, trivial⟩, by show 1 + (vsz t' + 0) ≤ _; omega, .tup g8 (.cons (.str _) (.cons (.tup (s8 _ _ g7) (.cons tpv .nil)) .nil)), rfl⟩
      · rintro σ H3 ⟨L3, k3, v, t', y2, y3, hi2, ok3, sz3, tp3, rfl⟩
        walk_at "rd"
        exact ⟨L3, k3, v, t', _, _, _, by omega, ok3, by omega, tp3, rfl⟩
    · walk_at "rd"
      exact ⟨L1, k1, v, t, 4, _, _, by decide, ok, by omega, tp, rfl⟩
  · rintro σ H3 ⟨L3, k3, v, t', n, y2, y3, hn, ok3, sz3, tp3, rfl⟩
    walk_at "rd"
    exact h v t' n _ hn ok3 sz3 tp3 L3 k3
end

/-! ### the parts of a value; a walk through it -/


mutual
/-- no list or map of it is too wide, its leaves are neither -/
def Vl.wd : Vl → Prop
  | .lf k _ => k ≠ "list" ∧ k ≠ "map"
  | .ls xs => xs.length ≤ 1000 ∧ wdL xs
  | .mp es => es.length ≤ 1000 ∧ wdM es
def wdL : List Vl → Prop
  | [] => True
  | x :: xs => x.wd ∧ wdL xs
def wdM : List (List Int × Vl) → Prop
  | [] => True
  | (_, v) :: es => v.wd ∧ wdM es
end
theorem wdL_mem : ∀ {xs : List Vl}, wdL xs → ∀ x ∈ xs, x.wd
  | [], _, x, h => absurd h (by simp)
  | y :: ys, h, x, hx => by
    rcases List.mem_cons.mp hx with e | e
    · rw [e]
      exact h.1
    · exact wdL_mem h.2 x e
theorem wdM_mem : ∀ {es : List (List Int × Vl)}, wdM es → ∀ e ∈ es, e.2.wd
  | [], _, x, h => absurd h (by simp)
  | (k, v) :: ys, h, x, hx => by
    rcases List.mem_cons.mp hx with e | e
    · rw [e]
      exact h.1
    · exact wdM_mem h.2 x e
/-- the values in a value, one level down -/
def kidsV : Vl → List Vl
  | .lf _ _ => []
  | .ls xs => xs
  | .mp es => es.map (·.2)
mutual
/-- all values in it, in preorder -/
def preV : Vl → List Vl
  | .lf k r => [.lf k r]
  | .ls xs => .ls xs :: preL xs
  | .mp es => .mp es :: preM es
def preL : List Vl → List Vl
  | [] => []
  | x :: xs => preV x ++ preL xs
def preM : List (List Int × Vl) → List Vl
  | [] => []
  | (_, v) :: es => preV v ++ preM es
end
theorem preL_eq : ∀ xs : List Vl, preL xs = xs.flatMap preV
  | [] => rfl
  | x :: xs => by
    show preV x ++ preL xs = _
    rw [preL_eq xs]
    rfl
theorem preM_eq : ∀ es : List (List Int × Vl), preM es = (es.map (·.2)).flatMap preV
  | [] => rfl
  | (k, v) :: es => by
    show preV v ++ preM es = _
    rw [preM_eq es]
    rfl
theorem preV_eq (d : Vl) : preV d = d :: (kidsV d).flatMap preV := by
  cases d with
  | lf k r => rfl
  | ls xs =>
    show Vl.ls xs :: preL xs = _
    rw [preL_eq]
    rfl
  | mp es =>
    show Vl.mp es :: preM es = _
    rw [preM_eq]
    rfl
/-- where a value stands -/
def TpV (H : Hp) (v : V) (d : Vl) : Prop := Tp H v d.dat ∧ d.wd
theorem TpV.tk {H H' : Hp} (k : Tk H H') {v : V} {d : Vl} (h : TpV H v d) : TpV H' v d := ⟨Tp.tk k _ _ h.1, h.2⟩
theorem tk_tups {H : Hp} : Tk H (tupsOf H) := fun _ _ h => tupsOf_tup h
theorem tups_tk {H : Hp} : Tk (tupsOf H) H := fun _ _ h => by
  obtain ⟨ys, e, h2⟩ := tupsOf_at h
  cases e
  exact h2
theorem tpV_all {H : Hp} : ∀ {xs : List V} {ds : List Vl}, TpAll H xs (datL ds) → wdL ds → Paired (TpV H) xs ds
  | _, [], h, _ => by cases h; exact .nil
  | _, d :: ds, h, w => by
    cases h with
    | cons h1 h2 => exact .cons ⟨h1, w.1⟩ (tpV_all h2 w.2)
def sp_parts (K : Frg) : Sp := sp1 fun a H Q _ => ∃ (d : Vl) (Dh : Hp), Tk Dh H ∧ TpV Dh a d ∧ ∀ (p : Addr) (xs : List V) (H' : Hp), H' p = some (.tup xs) → Paired (TpV Dh) xs (kidsV d) → Same H H' → Q (.ref p) H'
section
variable {P : Program} {w : World} {K : PySem.W.Frag} {mg : Str → Option Value} {base : Heap} {f : Addr} {fd : FuncData}
theorem ok_parts (F : FunD K "parts" "parts" (defArgs s_parts) (defBody s_parts) (defScope s_parts) [] [] (glAd "parts" K) fd) (m : mg "parts" = some (.ref (glAd "parts" K))) (nb : Nm K mg) : Cal P w K mg base 1 "parts" (sp_parts K) [] := by
  refine calD F m sc_parts (fun _ _ _ _ _ _ us hl => match us, hl with | [_], _ => rfl) len1 (fun cdv A outer s H vs Q E hr h => ⟨_, (pss_cons (ps_if (pt_cmpR op_eq (pe_ix ix_tup (pv 0) pe_int (fun _ _ => rfl)) pe_str (nomark _))
    (pss_one (ps_ret (pe_ix ix_tup (pv 0) pe_int (fun _ _ => rfl))))
    pss_nil)
    (pss_cons (ps_if (pt_cmpR op_eq (pe_ix ix_tup (pv 0) pe_int (fun _ _ => rfl)) pe_str (nomark _))
    (pss_one (ps_ret (pe_callTy call_tuple_ofE (by rfl) nb.tuple (by decide +kernel) (pa_cons (pe_lc (own := [("entry", 1)]) (g := gName 1) (tt := tYes) rfl sc_parts.nd (pi_tup (pe_ix ix_tup (pv 0) pe_int (fun _ _ => rfl))) (blkOk_by (N := ["value", "entry"]) (sc := defScope s_parts) (by decide +kernel)) (fun _ _ _ _ _ => pg_name (i := 1) sc_parts.nd rfl (Or.inl rfl)) (fun _ _ _ _ _ => pts_nil) (fun _ _ _ _ _ => (pe_ix (show IxR _ (rIx K) from ix_seq) (pv 1) pe_int (fun _ _ => rfl)))) pa_nil))))
    pss_nil)
    (pss_one (ps_ret (pe_tupE pa_nil))))), ?_⟩)
  obtain ⟨_, rfl, d, Dh, kD, ⟨t, wd⟩, h⟩ := h
  cases d with
  | lf k r =>
    obtain ⟨a, us, rfl, ha, hu⟩ := tp_tup t
    have ha := kD _ _ ha
    cases hu with
    | cons r1 r2 =>
    cases r1
    walk_at "rf"
    refine r_ixT (SqT.of ha) (atI_nat (j := 0) rfl) ?_
    walk_at "rf"
    refine r_iteN wd.1 ?_
    walk_at "rf"
    refine r_ixT (SqT.of ha) (atI_nat (j := 0) rfl) ?_
    walk_at "rf"
    refine r_iteN wd.2 ?_
    walk_at "rf"
    refine ⟨by show 0 ≤ sizeLine; decide, fun q H1 nq g1 s1 => ?_⟩
    exact h q [] H1 g1 .nil s1
  | ls xs =>
    obtain ⟨a, us, rfl, ha, hu⟩ := tp_tup t
    have ha := kD _ _ ha
    cases hu with
    | cons r1 r2 =>
    cases r1
    cases r2 with
    | cons r2 r3 =>
    cases r3
    obtain ⟨b, vs, rfl, hb, hv⟩ := tp_tup r2
    have hb := kD _ _ hb
    walk_at "rf"
    refine r_ixT (SqT.of ha) rfl ?_
    walk_at "rf"
    refine r_itep (show ("list" : Str) = "list" from rfl) ?_
    walk_at "rf"
    refine r_ixT (SqT.of ha) rfl ?_
    exact h b vs H hb (tpV_all hv wd.2) (Same.refl H)
  | mp es =>
    obtain ⟨a, us, rfl, ha, hu⟩ := tp_tup t
    have ha := kD _ _ ha
    cases hu with
    | cons r1 r2 =>
    cases r1
    cases r2 with
    | cons r2 r3 =>
    cases r3
    obtain ⟨b, vs, rfl, hb, hv⟩ := tp_tup r2
    have hb := kD _ _ hb
    walk_at "rf"
    refine r_ixT (SqT.of ha) rfl ?_
    walk_at "rf"
    refine r_iteN (show ¬ ("map" : Str) = "list" by decide +kernel) ?_
    walk_at "rf"
    refine r_ixT (SqT.of ha) rfl ?_
    walk_at "rf"
    refine r_itep (show ("map" : Str) = "map" from rfl) ?_
    walk_at "rf"
    refine r_ixT (SqT.of ha) rfl ?_
    have hvl : vs.length = es.length := by rw [tpAll_len hv, datM_map, List.length_map]
    have wl : es.length ≤ 1000 := wd.1
    refine ⟨b, rfl, ⟨vs, SqT.of hb⟩, fun D nD => ?_⟩
    refine lc_tup (xs := vs) (fun i H' => ∃ ws, Same H H' ∧ H' D = some (.lst ws) ∧ Paired (TpV Dh) ws ((es.take i).map (·.2))) ⟨[], same_upd nD _, upd_same, .nil⟩ (fun i H' _ q => by obtain ⟨_, q1, _⟩ := q; exact SqT.of (q1 _ _ hb)) ?_ ?_
    · rintro i x H' hx ⟨ws, s1, hD, tv⟩
      obtain ⟨d, hd, t2⟩ := tpAll_get hv hx
      rw [datM_map, List.getElem?_map] at hd
      cases he : es[i]? with
      | none => rw [he] at hd; cases hd
      | some en =>
        rw [he] at hd
        cases hd
        obtain ⟨e, zs, rfl, he2, re⟩ := tp_tup t2
        have he2 := kD _ _ he2
        cases re with
        | cons q1 re =>
        cases re with
        | cons q2 re =>
        cases re
        have hi : i < es.length := (List.getElem?_eq_some_iff.mp he).1
        have hwl := Paired.length tv
        rw [List.length_map, List.length_take] at hwl
        walk_at "rf"
        refine ⟨rfl, ?_⟩
        walk_at "rf"
        refine .inr (.inl (r_ixT (SqT.of (s1 _ _ he2)) (atI_nat (j := 1) rfl) ?_))
        refine ⟨_, hD, small4k (by omega), ws ++ [_], ?_, upd_same, ?_⟩
        · intro b o hb
          rw [upd_ne (ne_of_none hb nD)]
          exact s1 _ _ hb
        · rw [List.take_add_one, he, List.map_append]
          exact paired_app tv (.cons ⟨q2, wdM_mem wd.2 en (List.mem_of_getElem? he)⟩ .nil)
    · rintro H' ⟨ws, s1, hD, tv⟩
      rw [hvl, List.take_length] at tv
      walk_at "rf"
      refine ⟨D, ws, rfl, .inl ⟨SqL.of hD, fun p H2 np g2 s2 => ?_⟩⟩
      exact h p ws H2 g2 tv (s1.trans s2)
end
set_option maxHeartbeats 8000000 in
theorem extend_tup (l : Addr) (items : Array Value) (n : Nat) (b : Addr) (ob : Obj) (items2 : Array Value) (n2 : Nat) (hcb : ob.cls = .type "tuple") (hdb : ob.data = .seq items2 n2) (hs0 : ¬(!items.isEmpty && Builtin.List.listTooLong (items.size + items2.size)) = true) (hs1 : items.size ≤ sizeLine) (hs2 : items.size + items2.size ≤ sizeLine + 1) :
    Meets (Builtin.«list.extend» ⟨[.ref l, .ref b], []⟩) (fun _ R s => s.heap.get? l = some { cls := .type "list", dict := none, data := .seq items n, slots := #[] } ∧ s.heap.get? b = some ob ∧ R (.ok (.ret Value.none)) { s with heap := s.heap.update l (Obj.mapSeq fun x => x ++ items2), toks := s.toks }) :=
  .of_wp fun prog w A R s h => by
    obtain ⟨hp, g, d, tk, os⟩ := s
    obtain ⟨oc, od, odt, osl⟩ := ob
    cases hcb
    cases hdb
    obtain ⟨hl, hb, h⟩ := h
    have f1 := AutoSeq1.idx_int
    have f2 := AutoSeq1.sub_tuple_tuple
    have f3 := AutoSeq1.sub_list_list
    have f4 := AutoSeq1.sub_tuple_list
    have f5 := AutoSeq1.sub_list_tuple
    have hz' : (items ++ items2).size ≤ sizeLine + 1 := by rw [Array.size_append]; exact hs2
    wp_walk using (wpAny_updateSeq hl rfl (hz := hs1) (_hz' := hz')), AutoSeq1.wpAny_loadPart' hl, AutoSeq1.wpAny_loadPart' hb
    exact ⟨_, rfl, h⟩
/-- list.extend by a tuple -/
def rExtendT (K : Frg) : V → List V → Hp → VK → Prop := fun x vs H Q => ∃ l b xs zs, x = .ref l ∧ vs = [.ref b] ∧ H l = some (.lst xs) ∧ SqT K H b zs ∧ xs.length + zs.length ≤ sizeLine ∧ Q .non (upd H l (.lst (xs ++ zs)))
theorem mt_extendT {X : Cx} : MtM X "list.extend" (rExtendT X.K) := by
  intro pins s σ H x vs v us Q I rx rv h
  obtain ⟨l, b, xs, zs, rfl, rfl, hH, hB, hz, q⟩ := h
  cases rx
  obtain ⟨u, rfl, ru⟩ := rv.one
  cases ru
  obtain ⟨z, its, n, r, hl, e⟩ := I.lstM hH
  obtain ⟨its2, r2, ⟨ob, eb, cb, n2, db⟩, z2⟩ := I.tuple hB
  have l2 := r2.length
  have hsz : its.toArray.size + its2.toArray.size ≤ sizeLine := by rw [List.size_toArray, List.size_toArray]; omega
  have hlong : ¬ (!its.toArray.isEmpty && Builtin.List.listTooLong (its.toArray.size + its2.toArray.size)) = true := by rw [notLongL hsz, Bool.and_false]; exact Bool.false_ne_true
  refine call_meets F.slot_list_extend ⟨_, e, rfl⟩ F.entry_list_extend (F.args_list_extend_2 _ _) (extend_tup l its.toArray n b ob its2.toArray n2 cb db hlong (by rw [List.size_toArray]; omega) (by omega)) ⟨e, eb, ?_⟩
  refine ⟨.non, _, I.lset (its' := its ++ its2) hH e (by simp) (r.append r2) ?_, rfl, q⟩
  rw [List.length_append]
  omega
/-- for .. in enumerate(walk(..)) may be read so -/
structure Wlk (P : Program) (w : World) (K : PySem.W.Frag) (mg : Str → Option Value) (base : Heap) (k : Nat) (x : Str) : Prop where
  run : ∀ {X : Cx} {j kk : Nat} {e : Expr} {te : TE} {g : TG} {tb : TS} {bd : List Stmt} {elts : List Expr} {p1 p2 p3 p4 pos tpos : Pos}, X.prog = P → X.w = w → X.K = K → X.mg = mg → X.base = base → (∀ y z, ¬ X.xe y z) → X.calm = true → Room j X.A → k ≤ j → Gl X "enumerate" → mg "enumerate" = none → Gl X x →
    PE X e te → PG X (.Tuple elts kk tpos) g → PSs X bd tb → starEach [e] X.env = (false, eval e X.env) :: starEach [] X.env → starEach [.Call (.Name x p2) [e] [] p3] X.env = (false, eval (.Call (.Name x p2) [e] [] p3) X.env) :: starEach [] X.env →
    (∀ y, foldedSetIterable (.Call (.Name "enumerate" p1) [.Call (.Name x p2) [e] [] p3] [] p4) X.env y = pure y) → PS X (.For (.Tuple elts kk tpos) (.Call (.Name "enumerate" p1) [.Call (.Name x p2) [e] [] p3] [] p4) bd [] pos) (tForW TpV preV te g tb)
theorem ps_wlk {X : Cx} {j k kk : Nat} {x : Str} {e : Expr} {te : TE} {g : TG} {tb : TS} {bd : List Stmt} {elts : List Expr} {p1 p2 p3 p4 pos tpos : Pos} (c : Wlk X.prog X.w X.K X.mg X.base k x) (hr : Room j X.A) (hk : k ≤ j) (hme : X.mg "enumerate" = none) (he : PE X e te) (hg : PG X (.Tuple elts kk tpos) g) (hb : PSs X bd tb)
    (hX : ∀ y z, ¬ X.xe y z := by exact fun _ _ h => h) (hc : X.calm = true := by rfl) (hge : Gl X "enumerate" := by rfl) (hgw : Gl X x := by rfl) (h1 : starEach [e] X.env = (false, eval e X.env) :: starEach [] X.env := by rfl)
    (h2 : starEach [.Call (.Name x p2) [e] [] p3] X.env = (false, eval (.Call (.Name x p2) [e] [] p3) X.env) :: starEach [] X.env := by rfl) (h3 : ∀ y, foldedSetIterable (.Call (.Name "enumerate" p1) [.Call (.Name x p2) [e] [] p3] [] p4) X.env y = pure y := by intro _; rfl) :
    PS X (.For (.Tuple elts kk tpos) (.Call (.Name "enumerate" p1) [.Call (.Name x p2) [e] [] p3] [] p4) bd [] pos) (tForW TpV preV te g tb) :=
  c.run rfl rfl rfl rfl rfl hX hc hr hk hge hme hgw he hg hb h1 h2 h3
theorem run_ps {X : Cx} {st : Stmt} {t : TS} (h : PS X st t) {pins : List (Addr × Obj)} {σ : St} {H : Hp} {s : Shared} (I : Inv X pins σ H s) {N : St → Hp → Prop} {Q : Flow → Shared → Prop} (ht : t { nx := N, rt := fun _ _ => False } σ H) (hx : ∀ y z, ¬ X.xe y z)
    (hQ : ∀ σ' H' s', Inv X pins σ' H' s' → N σ' H' → Q .next s') : wpAny (model X.prog X.w) X.A (exec st X.env) Q (fun _ _ => False) s := by
  refine wpAny_mono (h.run pins s σ H _ I ht) (fun fl s' q => ?_) fun y s' q => (hx y s' q).elim
  cases fl with
  | next => obtain ⟨σ', H', I', n⟩ := q; exact hQ σ' H' s' I' n
  | brk => obtain ⟨_, _, _, q⟩ := q; exact q.elim
  | cont => obtain ⟨_, _, _, q⟩ := q; exact q.elim
  | ret u => obtain ⟨_, _, _, _, _, q⟩ := q; exact q.elim
theorem run_pt {X : Cx} {e : Expr} {t : TT} (h : PT X e t) {pins : List (Addr × Obj)} {σ : St} {H : Hp} {s : Shared} (I : Inv X pins σ H s) {N : Bool → Hp → Prop} {Q : Bool → Shared → Prop} (ht : t σ H N) (hx : ∀ y z, ¬ X.xe y z)
    (hQ : ∀ b H' s', Inv X pins σ H' s' → N b H' → Q b s') : wpAny (model X.prog X.w) X.A (isTrue e X.env (eval e X.env)) Q (fun _ _ => False) s :=
  wpAny_mono (h.run pins s σ H _ I ht) (fun b s' ⟨H', I', n⟩ => hQ b H' s' I' n) fun y s' q => (hx y s' q).elim
theorem run_pe {X : Cx} {e : Expr} {t : TE} (h : PE X e t) {pins : List (Addr × Obj)} {σ : St} {H : Hp} {s : Shared} (I : Inv X pins σ H s) {N : V → Hp → Prop} {Q : Value → Shared → Prop} (ht : t σ H N) (hx : ∀ y z, ¬ X.xe y z)
    (hQ : ∀ x u H' s', Inv X pins σ H' s' → RelV x u → N x H' → Q u s') : wpAny (model X.prog X.w) X.A (eval e X.env) Q (fun _ _ => False) s :=
  wpAny_mono (h.run pins s σ H _ I ht) (fun u s' ⟨x, H', I', r, n⟩ => hQ x u H' s' I' r n) fun y s' q => (hx y s' q).elim
section
variable {P : Program} {w : World} {K : PySem.W.Frag} {mg : Str → Option Value} {base : Heap} {f : Addr} {fd : FuncData}
theorem ok_walk (F : FunD K "walk" "walk" (defArgs s_walk) (defBody s_walk) (defScope s_walk) [] [] (glAd "walk" K) fd) (m : mg "walk" = some (.ref (glAd "walk" K))) (nb : Nm K mg) (c_parts : Cal P w K mg base 1 "parts" (sp_parts K) []) : Wlk P w K mg base 4 "walk" := by
  refine ⟨fun {X j kk e te g tb bd elts p1 p2 p3 p4 pos tpos} eP ew eK em eb hX hc hr hk hge hme hgw he hg hb h1 h2 h3 => ?_⟩
  subst eP ew eK em eb
  refine ps_walk (T := TpV) (kids := kidsV) (pre := preV) (N := ["value", "waiting", "found"]) (ps := ["value"]) (k := 3) hX hc (hr.mono hk) hge hme hgw F m sc_walk (fun n => rfl) (fun _ _ _ _ _ _ us hl => match us, hl with | [_], _ => rfl) rfl rfl (fun _ => rfl) (fun H v d h => TpV.tk tk_tups h) (fun H v d h => TpV.tk tups_tk h) preV_eq (fun _ _ => rfl) (fun s H cd v => ?_) he hg hb rfl h1 h2 h3
  have hx : ∀ (G : GP) (s0 : Shared) y z, ¬ (G.cx s0).xe y z := fun _ _ _ _ h => h
  have hr1 : ∀ env, Room 1 ((X.A.in1.in1).deeper env) := fun env => ((hr.mono hk).in1.in1.mono (Nat.le_refl 2)).deeper env
  constructor
  · intro s0 pins H0 s1 I
    refine run_ps (ps_set (i := 1) sc_walk.nd rfl (Or.inl rfl) (pe_lstN (pa_cons (pv 0) pa_nil))) I (N := fun σ' H' => ∃ l, s.heap.objs.size ≤ l ∧ H0 l = none ∧ σ' = [some v, some (.ref l), none] ∧ H' = upd H0 l (.lst [v])) ?_ (hx _ _) fun σ' H' s' I' ⟨l, q1, q2, q3, q4⟩ => ?_
    · refine r_asg ?_
      walk_at "rf"
      refine ⟨by show 1 ≤ sizeLine; decide, fun l nl hl => ?_⟩
      exact ⟨l, Nat.le_of_lt hl, nl, rfl, rfl⟩
    · subst q3 q4
      exact ⟨rfl, l, q1, q2, I'⟩
  · intro s0 pins l y ws H0 s1 I hl
    refine run_pt (pt_truth (pv 1) (by intro _; rfl)) I (N := fun b H' => b = !ws.isEmpty ∧ H' = H0) ?_ (hx _ _) fun b H' s' I' ⟨q1, q2⟩ => ?_
    · walk_at "rf"
      exact ⟨_, .inl ⟨ws, SqL.of hl, rfl⟩, rfl, rfl⟩
    · subst q2
      exact ⟨q1, I'⟩
  · intro s0 pins l y ws x H0 s1 I hl
    refine run_ps (ps_set (i := 2) sc_walk.nd rfl (Or.inl rfl) (pe_bm0 PySem.F.plainAttrs_list PySem.F.slot_list_pop PySem.F.type_list_pop mt_pop (pv 1))) I (N := fun σ' H' => σ' = [some v, some (.ref l), some x] ∧ H' = upd H0 l (.lst ws)) ?_ (hx _ _) fun σ' H' s' I' ⟨q3, q4⟩ => ?_
    · refine r_asg ?_
      walk_at "rf"
      refine ⟨tyL hl, l, ws ++ [x], x, rfl, rfl, hl, by simp, ?_⟩
      show _ ∧ _
      refine ⟨rfl, ?_⟩
      rw [List.dropLast_concat]
    · subst q3 q4
      exact ⟨rfl, I'⟩
  · intro s0 pins l x H0 s1 I
    refine run_pe (pv 2) I (N := fun u H' => u = x ∧ H' = H0) ?_ (hx _ _) fun u u' H' s' I' r ⟨q1, q2⟩ => ?_
    · exact ⟨x, rfl, rfl, rfl⟩
    · subst q1 q2
      exact ⟨r, I'⟩
  · intro s0 pins l x d ws H0 s1 I hl tx sub hz
    refine run_ps (ps_expr (pe_bm PySem.F.plainAttrs_list PySem.F.slot_list_extend PySem.F.type_list_extend (mt_extendT (X := ((gpOf X ["value", "waiting", "found"] "walk" (defScope s_walk) (glAd "walk" X.K) cd H s).cx s0))) (pv 1) (pa_cons (pe_revT (pe_c (X := ((gpOf X ["value", "waiting", "found"] "walk" (defScope s_walk) (glAd "walk" X.K) cd H s).cx s0)) c_parts (hr1 _) (by decide) rfl (pa_cons (pv 2) pa_nil))) pa_nil))) I (N := fun σ' H' => ∃ ys, Paired (TpV (tupsOf H)) ys (kidsV d) ∧ σ' = [some v, some (.ref l), some x] ∧ H' l = some (.lst (ws ++ ys.reverse))) ?_ (hx _ _) fun σ' H' s' I' ⟨ys, q1, q3, q4⟩ => ?_
    · walk_at "rf"
      refine ⟨tyL hl, ?_⟩
      walk_at "rf"
      refine ⟨x, rfl, x, rfl, d, tupsOf H, fun b xs q => sub b xs q, tx, fun p xs H2 g2 pa s2 => ?_⟩
      refine ⟨p, xs, rfl, SqT.of g2, fun p3 n3 => ?_⟩
      have hn : l ≠ p3 := fun z => by rw [← z, s2 _ _ hl] at n3; cases n3
      refine ⟨l, p3, ws, xs.reverse, rfl, rfl, ?_, SqT.of upd_same, ?_, ?_⟩
      · rw [upd_ne hn]
        exact s2 _ _ hl
      · rw [List.length_reverse, Paired.length pa]
        exact hz
      · exact ⟨xs, pa, rfl, upd_same⟩
    · subst q3
      exact ⟨rfl, H', ys, q1, I', q4⟩
end

/-! ### over a list or a tuple of numbers -/
theorem r_eachRow {σ : St} {H : Hp} {n : St → Hp → Prop} {r : VK} {K : PySem.W.Frag} {k : Nat} {g : TG} {tb : TS} {a : Addr} {zs : List Int} (e : σ[k]? = some (some (.ref a))) (hR : RowAt H a zs) (Pv : Nat → St → Hp → Prop) (h0 : Pv 0 σ H) (hl : ∀ i σ H', Pv i σ H' → ∀ u, H a = some u → H' a = some u)
    (hs : ∀ (i : Nat) (z : Int) σ H', zs[i]? = some z → Pv i σ H' → g (.int z) σ H' fun σ2 H2 => tb ⟨Pv (i + 1), r, n, Pv (i + 1)⟩ σ2 H2) (hd : ∀ σ H', Pv zs.length σ H' → n σ H') :
    (iList K (tVar k) σ H fun J H1 => ∃ W : Nat → Nat → St → Hp → Prop, (∃ m, W 0 m σ H1) ∧ ∀ i m σ H, W i m σ H →
    (J.stop i H ∧ n σ H) ∨ (J.go i H ∧ ∃ N : St → Hp → Prop, (∀ σ' H', N σ' H' → ∃ m', m' < m ∧ W (i + 1) m' σ' H') ∧ ∀ x H', J.yld i H x H' → g x σ H' fun σ2 H2 => tb ⟨N, r, n, N⟩ σ2 H2)) ∨
    (iTup K (tVar k) σ H fun J H1 => ∃ W : Nat → Nat → St → Hp → Prop, (∃ m, W 0 m σ H1) ∧ ∀ i m σ H, W i m σ H →
    (J.stop i H ∧ n σ H) ∨ (J.go i H ∧ ∃ N : St → Hp → Prop, (∀ σ' H', N σ' H' → ∃ m', m' < m ∧ W (i + 1) m' σ' H') ∧ ∀ x H', J.yld i H x H' → g x σ H' fun σ2 H2 => tb ⟨N, r, n, N⟩ σ2 H2)) := by
  have st : ∀ (i : Nat) (x : V) σ H', (zs.map V.int)[i]? = some x → Pv i σ H' → g x σ H' fun σ2 H2 => tb ⟨Pv (i + 1), r, n, Pv (i + 1)⟩ σ2 H2 := fun i x σ H' e p => by
    obtain ⟨c, h1, rfl, _⟩ := ints_get e
    exact hs i c σ H' h1 p
  rcases hR with q | q
  · have hd' : ∀ σ H', Pv (zs.map V.int).length σ H' → n σ H' := by
      rw [List.length_map]
      exact hd
    exact .inl (r_itL ⟨_, e, a, rfl, ⟨_, SqL.of q⟩, r_eachL Pv h0 (fun i σ H' p => SqL.of (hl i σ H' p _ q)) st hd'⟩)
  · have hd' : ∀ σ H', Pv (zs.map V.int).length σ H' → n σ H' := by
      rw [List.length_map]
      exact hd
    exact .inr (r_itT ⟨_, e, a, rfl, ⟨_, SqT.of q⟩, r_eachT Pv h0 (fun i σ H' p => SqT.of (hl i σ H' p _ q)) st hd'⟩)

def sp__encode_long (K : Frg) : Sp := sp1 fun p H Q _ => ∃ c, p = .int c ∧ 128 ≤ c ∧ c ≤ 1114111 ∧ ∀ l H', H l = none → H' l = some (.lst ((enc1 c).map V.int)) → Same H H' → Q (.ref l) H'
def sp_encode (K : Frg) : Sp := sp1 fun p H Q _ => ∃ a cs, p = .ref a ∧ RowAt H a cs ∧ (∀ c ∈ cs, Point c) ∧ 4 * cs.length < sizeLine ∧ ∀ l H', H l = none → H' l = some (.lst ((encs cs).map V.int)) → Same H H' → Q (.ref l) H'


section
variable {P : Program} {w : World} {K : PySem.W.Frag} {mg : Str → Option Value} {base : Heap} {f : Addr} {fd : FuncData}
theorem ok__encode_long (F : FunD K "_encode_long" "_encode_long" (defArgs s__encode_long) (defBody s__encode_long) (defScope s__encode_long) [] [] (glAd "_encode_long" K) fd) (m : mg "_encode_long" = some (.ref (glAd "_encode_long" K))) (nb : Nm K mg) : Cal P w K mg base 1 "_encode_long" (sp__encode_long K) [] := by
  obtain ⟨v_MARKS, u_MARKS, e_MARKS, r_MARKS, k_MARKS⟩ := nb.g_MARKS
  refine calD F m sc__encode_long (fun _ _ _ _ _ _ us hl => match us, hl with | [_], _ => rfl) len1 (fun cdv A outer s H vs Q E hr h => ⟨_, (pss_cons (ps_set (i := 1) sc__encode_long.nd rfl (Or.inl rfl) (pe_ifExp (pt_cmpR op_lt (pv 0) pe_int (nomark _)) pe_int (pe_ifExp (pt_cmpR op_lt (pv 0) pe_int (nomark _)) pe_int pe_int)))
    (pss_cons (ps_set (i := 2) sc__encode_long.nd rfl (Or.inl rfl) (pe_lst (pa_cons (pe_op op_add (pe_ix ix_tup (pe_gc rfl ⟨u_MARKS, e_MARKS, r_MARKS⟩) (pv 1) (fun _ _ => rfl)) (pe_op op_shr (pv 0) (pe_op op_mul pe_int (pv 1)))) pa_nil)))
    (pss_cons (ps_for PassesOwn.never rfl (pi_range3 rfl nb.range (pa_cons (pe_op op_sub (pe_op op_mul pe_int (pv 1)) pe_int) (pa_cons (pe_un un_neg pe_int) (pa_cons (pe_un un_neg pe_int) pa_nil)))) (pg_name (i := 3) sc__encode_long.nd rfl (Or.inl rfl))
    (pss_one (ps_expr (pe_bm PySem.F.plainAttrs_list PySem.F.slot_list_append PySem.F.type_list_append mt_append (pv 2) (pa_cons (pe_op op_add pe_int (pe_op op_mod (pe_op op_shr (pv 0) (pv 3)) pe_int)) pa_nil)))))
    (pss_one (ps_ret (pv 2)))))), ?_⟩)
  obtain ⟨_, rfl, c, rfl, c0, c1, h⟩ := h
  obtain ⟨tm, ys, rfl, hM, hE⟩ := dp_tup (k_MARKS H)
  have hE : ys = [0, 192, 224, 240].map V.int := dp_ints _ hE
  subst hE
  walk_at "rd"
  refine r_iteJ (.int (mm8 c)) ?_ ?_ ?_
  · intro c2 R hR
    unfold mm8 at hR
    rw [if_pos c2] at hR
    exact hR
  · intro c2 R hR
    unfold mm8 at hR
    rw [if_neg c2] at hR
    walk_at "rd"
    refine r_ite (fun c3 => ?_) (fun c3 => ?_)
    · rw [if_pos c3] at hR
      exact hR
    · rw [if_neg c3] at hR
      exact hR
  walk_at "rd"
  refine r_ixT hM (mark8_at (mm8 c) (mm8_is c)) ?_
  have hm := mm8_is c
  walk_at "rd"
  refine r_I (by omega) ?_
  walk_at "rd"
  refine ⟨by show 1 ≤ sizeLine; decide, fun l hl => ?_⟩
  have hL : upd H l (.lst [.int (mark8 (mm8 c) + c / 2 ^ (6 * mm8 c).toNat)]) l = some (.lst (((enc1 c).take 1).map V.int)) := by
    rw [upd_same, ← long_zero c0]
    rfl
  have hS := same_upd hl (.lst [.int (mark8 (mm8 c) + c / 2 ^ (6 * mm8 c).toNat)])
  generalize upd H l (.lst [.int (mark8 (mm8 c) + c / 2 ^ (6 * mm8 c).toNat)]) = H0 at hL hS ⊢
  walk_at "rd"
  refine ⟨_, _, _, (mm8 c).toNat, rfl, r_eachR (mm8 c).toNat (by rcases hm with e | e | e <;> rw [e] <;> exact ⟨by decide, by decide, by decide, by decide⟩)
    (fun i σ H' => ∃ y, σ = [some (.int c), some (.int (mm8 c)), some (.ref l), y] ∧ H' l = some (.lst (((enc1 c).take (i + 1)).map V.int)) ∧ Same H H') ⟨_, rfl, hL, hS⟩ ?_ ?_⟩
  · rintro i σ H1 hi ⟨y, rfl, g1, g2⟩
    walk_at "rd"
    refine ⟨tyL g1, ?_⟩
    walk_at "rd"
    refine r_I (by show 0 ≤ 6 * mm8 c - 6 + (i : Int) * (-6); rcases hm with e | e | e <;> rw [e] at hi ⊢ <;> (have : (i : Nat) < _ := hi; omega)) ?_
    walk_at "rd"
    refine r_appK g1 ?_ fun H5 hL5 f5 => ?_
    · refine Nat.lt_of_le_of_lt (m := 4) ?_ (by decide)
      rw [List.length_map]
      exact Nat.le_trans (List.length_take_le' _ _) (len_enc1 c).2
    · refine ⟨_, rfl, ?_, fun b u z => ?_⟩
      · rw [hL5, map_snoc, long_step c0 hi]
      · by_cases e : b = l
        · rw [e, hl] at z
          cases z
        · rw [f5 b e]
          exact g2 b u z
  · rintro σ H1 ⟨y, rfl, g1, g2⟩
    rw [long_all c0] at g1
    walk_at "rd"
    exact h l H1 hl g1 g2
theorem ok_encode (F : FunD K "encode" "encode" (defArgs s_encode) (defBody s_encode) (defScope s_encode) [] [] (glAd "encode" K) fd) (m : mg "encode" = some (.ref (glAd "encode" K))) (nb : Nm K mg) (c__encode_long : Cal P w K mg base 1 "_encode_long" (sp__encode_long K) []) : Cal P w K mg base 2 "encode" (sp_encode K) [] := by
  refine calD F m sc_encode (fun _ _ _ _ _ _ us hl => match us, hl with | [_], _ => rfl) len1 (fun cdv A outer s H vs Q E hr h => ⟨_, (pss_cons (ps_set (i := 1) sc_encode.nd rfl (Or.inl rfl) (pe_lst pa_nil))
    (pss_cons (ps_for PassesOwn.never rfl (pi_or (pi_list (pv 0)) (pi_tup (pv 0))) (pg_name (i := 2) sc_encode.nd rfl (Or.inl rfl))
    (pss_one (ps_if (pt_cmpR op_lt (pv 2) pe_int (nomark _))
    (pss_one (ps_expr (pe_bm PySem.F.plainAttrs_list PySem.F.slot_list_append PySem.F.type_list_append mt_append (pv 1) (pa_cons (pv 2) pa_nil))))
    (pss_one (ps_expr (pe_bm PySem.F.plainAttrs_list PySem.F.slot_list_extend PySem.F.type_list_extend mt_extend (pv 1) (pa_cons (pe_c c__encode_long hr (by decide) rfl (pa_cons (pv 2) pa_nil)) pa_nil)))))))
    (pss_one (ps_ret (pv 1))))), ?_⟩)
  obtain ⟨_, rfl, a, cs, rfl, hR, hc, hn, h⟩ := h
  walk_at "rd"
  refine ⟨by show 0 ≤ sizeLine; decide, fun l hl => ?_⟩
  have hL : upd H l (.lst []) l = some (.lst ((encs (cs.take 0)).map V.int)) := upd_same
  have hS := same_upd hl (.lst [])
  generalize upd H l (.lst []) = H0 at hL hS ⊢
  have hR0 := row_same hR hS
  walk_at "rd"
  have ha : ∀ u, H0 a = some u → a ≠ l := fun u z e => by
    have hx : ∃ u, H a = some u := hR.elim (fun h => ⟨_, h⟩) fun h => ⟨_, h⟩
    obtain ⟨u, hu⟩ := hx
    rw [e, hl] at hu
    cases hu
  refine r_eachRow rfl hR0 (fun i σ H' => ∃ y, σ = [some (.ref a), some (.ref l), y] ∧ H' l = some (.lst ((encs (cs.take i)).map V.int)) ∧ ∀ b u, b ≠ l → H0 b = some u → H' b = some u) ⟨_, rfl, hL, fun _ _ _ z => z⟩
    (fun i σ H' p u z => by
      obtain ⟨y, _, _, g⟩ := p
      exact g a u (ha u z) z) ?_ ?_
  · rintro i c σ H1 hi ⟨y, rfl, g1, g2⟩
    have hP := hc c (List.mem_of_getElem? hi)
    have hlen : (encs (cs.take i)).length ≤ 4 * cs.length := by
      have h1 := len_encs (cs.take i)
      have h2 := List.length_take_le' i cs
      omega
    have hi' : i < cs.length := (List.getElem?_eq_some_iff.mp hi).1
    have hlen2 : (encs (cs.take i)).length + 4 ≤ 4 * cs.length := by
      have h1 := len_encs (cs.take i)
      have h2 : (cs.take i).length ≤ i := List.length_take_le _ _
      omega
    walk_at "rd"
    refine r_ite (fun c1 => ?_) (fun c1 => ?_)
    · walk_at "rd"
      refine ⟨tyL g1, ?_⟩
      walk_at "rd"
      refine r_appK g1 (by rw [List.length_map]; omega) fun H5 hL5 f5 => ?_
      refine ⟨_, rfl, ?_, fun b u p z => ?_⟩
      · rw [hL5, map_snoc, ints_step hi, encs_snoc, enc_low c1]
      · rw [f5 b p]
        exact g2 b u p z
    · walk_at "rd"
      refine ⟨tyL g1, ?_⟩
      walk_at "rd"
      refine ⟨_, rfl, c, rfl, by omega, hP.2.1, fun p H2 hp hp2 s2 => ?_⟩
      have hpl : p ≠ l := fun e => by
        rw [e, g1] at hp
        cases hp
      refine ⟨l, p, _, _, rfl, rfl, s2 _ _ g1, hp2, ?_, ?_⟩
      · rw [List.length_map, List.length_map]
        have := (len_enc1 c).2
        omega
      · refine ⟨_, rfl, ?_, fun b u q z => ?_⟩
        · rw [upd_same, ints_step hi, encs_snoc, List.map_append]
        · rw [upd_ne q]
          exact s2 _ _ (g2 b u q z)
  · rintro σ H1 ⟨y, rfl, g1, g2⟩
    rw [List.take_length] at g1
    walk_at "rd"
    refine h l H1 hl g1 fun b u z => ?_
    have hbl : b ≠ l := fun e => by
      rw [e, hl] at z
      cases z
    exact g2 b u hbl (hS b u z)
end

/-! ### what is lacking -/




def lackK (k : Str) (r : List PyData) : Bool :=
  if k = "number" then (match r with
    | [.int _, .int e] => !(decide (0 ≤ e) && decide (e ≤ 800))
    | _ => false) else !(decide (k = "bytes") || decide (k = "list") || decide (k = "map"))
def NumK (k : Str) (r : List PyData) : Prop := k = "number" → ∃ m e : Int, r = [.int m, .int e]
def kindV : Vl → Str
  | .lf k _ => k
  | .ls _ => "list"
  | .mp _ => "map"
def restV : Vl → List PyData
  | .lf _ r => r
  | .ls xs => [.tuple (datL xs)]
  | .mp es => [.tuple (datM es)]
theorem dat_kind (d : Vl) : d.dat = .tuple (.str (kindV d) :: restV d) := by cases d <;> rfl
def lackV (d : Vl) : Bool := lackK (kindV d) (restV d)
def NumAll (d : Vl) : Prop := ∀ x ∈ preV d, NumK (kindV x) (restV x)
/-- the index of the first one that is lacking -/
def fstL (ds : List Vl) : Option Nat := ds.findIdx? lackV
def optV : Option Nat → V
  | none => .non
  | some i => .int (i : Nat)
theorem in_three (k a b c : Str) : inV (.str k) [.str a, .str b, .str c] = (decide (k = a) || (decide (k = b) || decide (k = c))) := by
  have e : ∀ a : Str, eqV (.str a) (.str k) = decide (k = a) := fun a => by
    show (a == k) = decide (k = a)
    by_cases c : k = a
    · rw [c, decide_eq_true rfl]
      simp
    · rw [decide_eq_false c]
      exact beq_eq_false_iff_ne.mpr fun z => c z.symm
  unfold inV
  rw [List.any_cons, List.any_cons, List.any_cons, List.any_nil, Bool.or_false, e, e, e]
theorem in_two (k a b : Str) : inV (.str k) [.str a, .str b] = (decide (k = a) || decide (k = b)) := by
  have e : ∀ a : Str, eqV (.str a) (.str k) = decide (k = a) := fun a => by
    show (a == k) = decide (k = a)
    by_cases c : k = a
    · rw [c, decide_eq_true rfl]
      simp
    · rw [decide_eq_false c]
      exact beq_eq_false_iff_ne.mpr fun z => c z.symm
  unfold inV
  rw [List.any_cons, List.any_cons, List.any_nil, Bool.or_false, e, e]
theorem tpV_kind {H : Hp} {v : V} {d : Vl} (h : TpV H v d) : ∃ p xs, v = .ref p ∧ H p = some (.tup (.str (kindV d) :: xs)) ∧ TpAll H xs (restV d) := by
  obtain ⟨t, _⟩ := h
  rw [dat_kind] at t
  obtain ⟨a, us, rfl, ha, hu⟩ := tp_tup t
  cases hu with
  | cons r1 r2 => cases r1; exact ⟨a, _, rfl, ha, r2⟩
theorem TupExt.same {H H' : Hp} (h : TupExt H H') : Same H H' := fun b o e => by
  rcases h b with q | ⟨q, _⟩
  · rw [q]
    exact e
  · rw [e] at q
    cases q
theorem TupExt.trans {A B C : Hp} (h : TupExt A B) (k : TupExt B C) : TupExt A C := fun b => by
  rcases k b with q | ⟨q, xs, e⟩
  · rw [q]
    exact h b
  · rcases h b with q2 | ⟨q2, _⟩
    · exact .inr ⟨q2.symm.trans q, xs, e⟩
    · exact .inr ⟨q2, xs, e⟩
theorem fstL_none {ds : List Vl} (h : ∀ x ∈ ds, lackV x = false) : fstL ds = none := by
  unfold fstL
  rw [List.findIdx?_eq_none_iff]
  intro x hx
  rw [h x hx]
theorem fstL_at : ∀ {ds : List Vl} {i : Nat} {e : Vl}, ds[i]? = some e → lackV e = true → (∀ j < i, ∀ x, ds[j]? = some x → lackV x = false) → fstL ds = some i
  | [], i, e, h, _, _ => by simp at h
  | d :: ds, 0, e, h, c, _ => by
    cases (show some d = some e from h)
    unfold fstL
    rw [List.findIdx?_cons, c]
    rfl
  | d :: ds, i + 1, e, h, c, q => by
    have q0 := q 0 (Nat.succ_pos i) d rfl
    have r := fstL_at (ds := ds) (i := i) (by simpa using h) c fun j hj x hx => q (j + 1) (Nat.succ_lt_succ hj) x (by simpa using hx)
    unfold fstL at r ⊢
    rw [List.findIdx?_cons, q0, r]
    rfl
def sp_is_lacking (K : Frg) : Sp := sp1 fun a H Q _ => ∃ (p : Addr) (k : Str) (xs : List V) (r : List PyData), a = .ref p ∧ H p = some (.tup (.str k :: xs)) ∧ TpAll H xs r ∧ NumK k r ∧ ∀ H', TupExt H H' → Q (.bl (lackK k r)) H'
def sp_first_lacking (K : Frg) : Sp := sp2 fun a g H Q _ => ∃ d : Vl, g = .ref (glAd "is_lacking" K) ∧ TpV H a d ∧ NumAll d ∧ (preV d).length ≤ sizeLine ∧ ∀ H', Same H H' → Q (optV (fstL (preV d))) H'
def sp_bencode_lacks (K : Frg) : Sp := sp1 fun a H Q _ => ∃ d : Vl, TpV H a d ∧ NumAll d ∧ (preV d).length ≤ sizeLine ∧ ∀ H', Same H H' → Q (optV (fstL (preV d))) H'
def sp_check_writable (K : Frg) : Sp := sp2 fun a g H Q E => ∃ d : Vl, g = .ref (glAd "is_lacking" K) ∧ TpV H a d ∧ NumAll d ∧ (preV d).length ≤ sizeLine ∧ (fstL (preV d) = none → ∀ H', Same H H' → Q .non H') ∧
  ∀ i, fstL (preV d) = some i → ∀ x H', H' x = some (.xd [("what", .int (i : Nat))]) → Same H H' → E (.ref (C_Unwritable K)) (some x) H'
section
variable {P : Program} {w : World} {K : PySem.W.Frag} {mg : Str → Option Value} {base : Heap} {f : Addr} {fd : FuncData}
theorem ok_is_lacking (F : FunD K "is_lacking" "is_lacking" (defArgs s_is_lacking) (defBody s_is_lacking) (defScope s_is_lacking) [] [] (glAd "is_lacking" K) fd) (m : mg "is_lacking" = some (.ref (glAd "is_lacking" K))) (nb : Nm K mg) : Cal P w K mg base 1 "is_lacking" (sp_is_lacking K) [] := by
  refine calD F m sc_is_lacking (fun _ _ _ _ _ _ us hl => match us, hl with | [_], _ => rfl) len1 (fun cdv A outer s H vs Q E hr h => ⟨_, (pss_cons (ps_if (pt_cmpR op_eq (pe_ix ix_tup (pv 0) pe_int (fun _ _ => rfl)) pe_str (nomark _))
    (pss_one (ps_ret (pe_not (pe_chain op_le op_le pe_int (pe_ix ix_tup (pv 0) pe_int (fun _ _ => rfl)) (pe_gc rfl nb.g_LARGEST_EXPONENT)))))
    pss_nil)
    (pss_one (ps_ret (pe_cmpR op_notIn_seq (pe_ix ix_tup (pv 0) pe_int (fun _ _ => rfl)) (pe_tup (pa_cons pe_str (pa_cons pe_str (pa_cons pe_str pa_nil)))) rfl)))), ?_⟩)
  obtain ⟨_, rfl, p, k, xs, r, rfl, hp, hx, hn, h⟩ := h
  walk_at "rd"
  refine r_ixT (SqT.of hp) (atI_nat (j := 0) rfl) ?_
  walk_at "rd"
  by_cases c : k = "number"
  · obtain ⟨m, e, rfl⟩ := hn c
    obtain ⟨v1, v2, rfl⟩ : ∃ v1, ∃ v2 : Unit, xs = [.int m, .int e] := ⟨(), (), by
      cases hx with
      | cons h1 h2 =>
        cases h1
        cases h2 with
        | cons h1 h2 =>
          cases h1
          cases h2
          rfl⟩
    have el : lackK k [.int m, .int e] = !(decide (0 ≤ e) && decide (e ≤ 800)) := if_pos c
    rw [el] at h
    refine r_itep c ?_
    walk_at "rd"
    refine r_ixT (SqT.of hp) (atI_nat (j := 2) rfl) ?_
    walk_at "rd"
    have h := h H (TupExt.refl H)
    refine r_ite (fun c1 => ?_) (fun c1 => ?_)
    · rw [decide_eq_true c1, Bool.true_and] at h
      walk_at "rd"
      exact h
    · rw [decide_eq_false c1, Bool.false_and] at h
      walk_at "rd"
      exact h
  · have el : lackK k r = !(decide (k = "bytes") || decide (k = "list") || decide (k = "map")) := if_neg c
    rw [el] at h
    refine r_iteN c ?_
    walk_at "rd"
    refine r_ixT (SqT.of hp) (atI_nat (j := 0) rfl) ?_
    walk_at "rd"
    refine ⟨by show 3 ≤ sizeLine; decide, fun q n2 => ?_⟩
    refine ⟨q, _, rfl, .inr (SqT.of upd_same), rfl, rfl, ?_⟩
    rw [if_pos rfl, in_three, ← Bool.or_assoc]
    exact h _ ((TupExt.refl H).put n2)
theorem ok_first_lacking (F : FunD K "first_lacking" "first_lacking" (defArgs s_first_lacking) (defBody s_first_lacking) (defScope s_first_lacking) [] [] (glAd "first_lacking" K) fd) (m : mg "first_lacking" = some (.ref (glAd "first_lacking" K))) (nb : Nm K mg) (c_is_lacking : Cal P w K mg base 1 "is_lacking" (sp_is_lacking K) []) (c_walk : Wlk P w K mg base 4 "walk") : Cal P w K mg base 5 "first_lacking" (sp_first_lacking K) [] := by
  refine calD F m sc_first_lacking (fun _ _ _ _ _ _ us hl => match us, hl with | [_, _], _ => rfl) len2 (fun cdv A outer s H vs Q E hr h => ⟨_, (pss_cons (ps_wlk c_walk hr (by decide) nb.enumerate (pv 0) (pg_tup rfl (pgs_cons (pg_name (i := 2) sc_first_lacking.nd rfl (Or.inl rfl)) (pgs_cons (pg_name (i := 3) sc_first_lacking.nd rfl (Or.inl rfl)) pgs_nil)))
    (pss_one (ps_if (pt_val (pe_cL (i := 1) c_is_lacking hr (by decide) (pa_cons (pv 3) pa_nil)))
    (pss_one (ps_ret (pv 2)))
    pss_nil)))
    (pss_one (ps_ret pe_non))), ?_⟩)
  obtain ⟨v, _, rfl, d, rfl, tp, nu, hz, h⟩ := h
  -- 0:value 1:is_lacking 2:index 3:found
  walk_at "rf"
  refine ⟨v, rfl, d, tp, hz, fun i σ H' => TupExt H H' ∧ (∀ j < i, ∀ x, (preV d)[j]? = some x → lackV x = false) ∧ ∃ y2 y3, σ = [some v, some (.ref (glAd "is_lacking" K)), y2, y3], ⟨TupExt.refl H, fun j hj => absurd hj (Nat.not_lt_zero j), none, none, rfl⟩, fun i σ H' q => q.1, ?_, ?_⟩
  · rintro i x e σ H2 p he tx ⟨te, hq, y2, y3, rfl⟩ np
    refine r_gtup (SqT.of upd_same) rfl ?_
    obtain ⟨b, xs, rfl, hb, hxs⟩ := tpV_kind (tx.tk (Same.tk te.same))
    have t2 := te.put (xs := [.int (i : Nat), .ref b]) np
    walk_at "rf"
    refine r_callN rfl nb.f_is_lacking ?_
    walk_at "rf"
    refine ⟨_, rfl, b, kindV e, xs, restV e, rfl, ((TupExt.refl H2).put np).same _ _ hb, TpAll.tk (Same.tk ((TupExt.refl H2).put np).same) _ _ hxs, nu e (List.mem_of_getElem? he), fun H3 t3 => ⟨_, rfl, ?_⟩⟩
    cases c : lackK (kindV e) (restV e) with
    | true =>
      walk_at "rf"
      have q := h H3 (t2.trans t3).same
      rw [fstL_at he c hq] at q
      exact q
    | false =>
      walk_at "rf"
      refine ⟨t2.trans t3, fun j hj x hx => ?_, _, _, rfl⟩
      by_cases hji : j < i
      · exact hq j hji x hx
      · have : j = i := by omega
        subst this
        rw [he] at hx
        cases hx
        exact c
  · rintro σ H2 ⟨te, hq, y2, y3, rfl⟩
    walk_at "rf"
    have q := h H2 te.same
    rw [fstL_none fun x hx => by
      obtain ⟨j, hj, e⟩ := List.mem_iff_getElem.mp hx
      exact hq j hj x (by rw [List.getElem?_eq_getElem hj, e])] at q
    exact q
theorem ok_check_writable (F : FunD K "check_writable" "check_writable" (defArgs s_check_writable) (defBody s_check_writable) (defScope s_check_writable) [] [] (glAd "check_writable" K) fd) (m : mg "check_writable" = some (.ref (glAd "check_writable" K))) (nb : Nm K mg) (z_Unwritable : Raz P w K mg base "Unwritable" (C_Unwritable K) "what") (c_first_lacking : Cal P w K mg base 5 "first_lacking" (sp_first_lacking K) []) : CalX P w K mg base 6 "check_writable" (sp_check_writable K) := by
  refine calXD F m sc_check_writable (fun _ _ _ _ _ _ us hl => match us, hl with | [_, _], _ => rfl) len2 (fun cdv A outer s H vs Q E hr h => ⟨_, (pss_cons (ps_set (i := 2) sc_check_writable.nd rfl (Or.inl rfl) (pe_c c_first_lacking hr (by decide) rfl (pa_cons (pv 0) (pa_cons (pv 1) pa_nil))))
    (pss_one (ps_if (pt_cmpR op_notN (pv 2) pe_non (nomark _))
    (pss_one (ps_raz z_Unwritable rfl hr (by decide) rfl (takes_of rfl rfl rfl rfl) (pv 2)))
    pss_nil))), ?_⟩)
  obtain ⟨v, _, rfl, d, rfl, tp, nu, hz, h1, h2⟩ := h
  walk_at "rf"
  refine ⟨_, _, rfl, d, rfl, tp, nu, hz, fun H1 s1 => ?_⟩
  cases e : fstL (preV d) with
  | none =>
    walk_at "rf"
    rw [show (!decide (optV none = V.non)) = false from rfl]
    walk_at "rf"
    exact h1 e H1 s1
  | some i =>
    walk_at "rf"
    rw [show (!decide (optV (some i) = V.non)) = true from rfl]
    walk_at "rf"
    exact fun x nx => h2 i e x _ upd_same (s1.trans (same_upd nx _))
theorem ok_bencode_lacks (F : FunD K "bencode_lacks" "bencode_lacks" (defArgs s_bencode_lacks) (defBody s_bencode_lacks) (defScope s_bencode_lacks) [] [] (glAd "bencode_lacks" K) fd) (m : mg "bencode_lacks" = some (.ref (glAd "bencode_lacks" K))) (nb : Nm K mg) (c_first_lacking : Cal P w K mg base 5 "first_lacking" (sp_first_lacking K) []) : Cal P w K mg base 6 "bencode_lacks" (sp_bencode_lacks K) [] := by
  refine calD F m sc_bencode_lacks (fun _ _ _ _ _ _ us hl => match us, hl with | [_], _ => rfl) len1 (fun cdv A outer s H vs Q E hr h => ⟨_, (pss_one (ps_ret (pe_c c_first_lacking hr (by decide) rfl (pa_cons (pv 0) (pa_cons (pe_gc (v := .ref (glAd "is_lacking" K)) rfl ⟨_, nb.f_is_lacking, rfl⟩) pa_nil))))), ?_⟩)
  obtain ⟨v, rfl, d, tp, nu, hz, h⟩ := h
  walk_at "rf"
  exact ⟨_, _, rfl, d, rfl, tp, nu, hz, h⟩
end

/-! ### the octets of a leaf, of a key -/





/-- a new list with these numbers, all else kept -/
def Out (H : Hp) (xs : List Int) (Q : VK) : Prop := ∀ (p : Addr) (H' : Hp), H p = none → H' p = some (.lst (xs.map V.int)) → Same H H' → Q (.ref p) H'
theorem Out.same {H H1 : Hp} {xs : List Int} {Q : VK} (h : Out H xs Q) (s : Same H H1) : Out H1 xs Q := fun p H' n g s' => h p H' (s.free n) g (s.trans s')
/-- list + list -/
theorem r_catB {a b : Addr} {xs ys : List Int} {H : Hp} {Q : VK} (h1 : H a = some (.lst (xs.map V.int))) (h2 : H b = some (.lst (ys.map V.int))) (hl : xs.length + ys.length ≤ 16700000) (h : ∀ p H', H p = none → H' p = some (.lst ((xs ++ ys).map V.int)) → Same H H' → Q (.ref p) H') : rCat (.ref a) (.ref b) H Q :=
  ⟨a, b, _, _, rfl, rfl, h1, h2, Nat.le_trans (by rw [List.length_map, List.length_map]; exact hl) (by decide : 16700000 ≤ sizeLine), fun p hp => h p _ hp (by rw [upd_same, cat_ints]) (same_upd hp _)⟩
/-- a list of something for each sign of a text -/
theorem r_lcS {σ : St} {H : Hp} {Q : VK} {k : Nat} {g : TG} {te : TE} {vs : List Nat} {x : Str} (e : σ[k]? = some (some (.str x))) (Pv : Addr → Nat → Hp → Prop) (h0 : ∀ D, H D = none → Pv D 0 (upd H D (.lst [])))
    (hs : ∀ (D : Addr) (i c : Nat) (H' : Hp), H D = none → x.cps[i]? = some c → Pv D i H' → g (.str ⟨#[c]⟩) (wipe σ vs) H' fun σ2 H2 => wipe σ2 vs = wipe σ vs ∧ te σ2 H2 fun y H4 => ∃ acc, H4 D = some (.lst acc) ∧ acc.length < sizeLine ∧ Pv D (i + 1) (upd H4 D (.lst (acc ++ [y]))))
    (hd : ∀ (D : Addr) (H' : Hp), H D = none → Pv D x.cps.size H' → Q (.ref D) H') : tLc (iStr (tVar k)) g tYes te vs σ H Q := by
  refine ⟨_, e, x, rfl, fun D hD => ⟨fun i m H' => m + i = x.cps.size ∧ Pv D i H', ⟨x.cps.size, rfl, h0 D hD⟩, fun i m H' hW => ?_⟩⟩
  obtain ⟨hm, p⟩ := hW
  by_cases c : i < x.cps.size
  · refine .inr ⟨c, fun H' => Pv D (i + 1) H', fun H' q => ⟨m - 1, by omega, by omega, q⟩, ?_⟩
    rintro v _ ⟨rfl, cc, hc, rfl⟩
    exact hs D i cc _ hD hc p
  · have : i = x.cps.size := by omega
    subst this
    exact .inl ⟨Nat.le_refl _, hd D H' hD p⟩
theorem same_but {H H1 H2 : Hp} {q : Addr} (s : Same H H1) (nq : H q = none) (k : ∀ b, b ≠ q → H2 b = H1 b) : Same H H2 := fun b u z => by
  rw [k b (fun e => by rw [e, nq] at z; cases z)]
  exact s b u z
theorem S_at (x : List Nat) (i : Nat) : (S x).cps[i]? = x[i]? := by simp [S]
theorem S_size (x : List Nat) : (S x).cps.size = x.length := by simp [S]
theorem asc_len (x : List Nat) : (asc x).length = x.length := List.length_map ..
theorem small_asc {x : List Nat} (hx : x.length ≤ 10000) (i : Nat) : ((asc (x.take i)).map V.int).length < sizeLine := by
  rw [List.length_map, asc_len]
  exact Nat.lt_of_le_of_lt (Nat.le_trans (List.length_take_le' _ _) hx) (by decide)
theorem new_o {H : Hp} {p : Addr} {o : HO} (hp : H p = none) : ∃ H', upd H p o = H' ∧ Same H H' ∧ H' p = some o := ⟨_, rfl, same_upd hp o, upd_same⟩
def sp_in_ascii (K : Frg) : Sp := sp1 fun a H Q _ => ∃ x : List Nat, a = .str (S x) ∧ x.length ≤ 10000 ∧ Out H (asc x) Q
def sp_with_count (K : Frg) : Sp := sp1 fun a H Q _ => ∃ (p : Addr) (os : List Int), a = .ref p ∧ (SqL K H p (os.map V.int) ∨ SqT K H p (os.map V.int)) ∧ os.length ≤ 4000 ∧ Out H (strO os) Q
def sgnT (i : Int) : List Nat := if i < 0 then [45] else []
def sp_signed_digits (K : Frg) : Sp := sp1 fun a H Q _ => ∃ i : Int, a = .int i ∧ i.natAbs < 10 ^ 4000 ∧ ∀ H', Same H H' → Q (.str (S (sgnT i ++ dg i.natAbs))) H'
/-- the octets of a leaf that bencode has -/
def lfO (k : Str) (r : List PyData) : List Int := if k = "number" then (match r with
    | [.int m, .int e] => numO m e
    | _ => []) else match r with
    | [.tuple xs] => strO (xs.map fun d => match d with | .int i => i | _ => 0)
    | _ => []
theorem lfO_bytes (os : List Int) : lfO "bytes" [kd os] = strO os := by
  show (if ("bytes" : Str) = "number" then _ else _) = _
  rw [if_neg (by decide +kernel)]
  show strO ((os.map PyData.int).map fun d => match d with | .int i => i | _ => 0) = _
  rw [List.map_map, show ((fun d : PyData => match d with | .int i => i | _ => 0) ∘ PyData.int) = id from rfl, List.map_id]
theorem lfO_num (m e : Int) : lfO "number" [.int m, .int e] = numO m e := rfl
def sp_leaf_octets (K : Frg) : Sp := sp1 fun a H Q _ => ∃ (k : Str) (r : List PyData), Tp H a (.tuple (.str k :: r)) ∧ Lb k r ∧ Out H (lfO k r) Q
def sp_key_octets (K : Frg) : Sp := sp1 fun a H Q _ => ∃ (p : Addr) (ps : List Int), a = .ref p ∧ H p = some (.tup (ps.map V.int)) ∧ Kp ps ∧ Out H (strO (encs ps)) Q
/-- the digits of a number with zeros behind it -/
theorem dg_zeros {q : Nat} (k : Nat) (h : q ≠ 0) : dg (q * 10 ^ k) = dg q ++ List.replicate k 48 := by
  have e := dg_pad k q 0 (by omega) (Nat.pow_pos (by decide))
  rw [Nat.add_zero, pad_zero] at e
  exact e
theorem out_num {m e : Int} (nf : Nf m e) : asc ([105] ++ (sgnT (m * 10 ^ e.toNat) ++ dg (m * 10 ^ e.toNat).natAbs) ++ [101]) = numO m e := by
  have ea : ∀ x : List Nat, asc ([105] ++ x ++ [101]) = [105] ++ asc x ++ [101] := fun x => by
    unfold asc
    rw [List.map_append, List.map_append]
    rfl
  rw [ea]
  unfold numO
  have e2 : sgnT (m * 10 ^ e.toNat) ++ dg (m * 10 ^ e.toNat).natAbs = (if m < 0 then [45] else []) ++ dg m.natAbs ++ List.replicate e.toNat 48 := by
    by_cases c : m = 0
    · have e0 : e = 0 := by
        rcases nf with ⟨_, h⟩ | h
        · exact h
        · exact absurd (by rw [c]; rfl) h.1
      subst c e0
      show sgnT (0 * 10 ^ 0) ++ dg ((0 : Int) * 10 ^ 0).natAbs = _
      rfl
    · have hp : (0 : Int) < 10 ^ e.toNat := Int.pow_pos (by decide)
      have sg : m * 10 ^ e.toNat < 0 ↔ m < 0 := by
        constructor
        · intro h
          by_cases q : m < 0
          · exact q
          · exact absurd h (Int.not_lt.mpr (Int.mul_nonneg (by omega) (Int.le_of_lt hp)))
        · exact fun h => Int.mul_neg_of_neg_of_pos h hp
      have es : sgnT (m * 10 ^ e.toNat) = (if m < 0 then [45] else []) := by
        unfold sgnT
        by_cases q : m < 0
        · rw [if_pos (sg.mpr q), if_pos q]
        · rw [if_neg (fun z => q (sg.mp z)), if_neg q]
      rw [es, Int.natAbs_mul, natAbs10, dg_zeros _ (by omega), List.append_assoc]
  rw [e2]
section
variable {P : Program} {w : World} {K : PySem.W.Frag} {mg : Str → Option Value} {base : Heap} {f : Addr} {fd : FuncData}
theorem ok_in_ascii (F : FunD K "in_ascii" "in_ascii" (defArgs s_in_ascii) (defBody s_in_ascii) (defScope s_in_ascii) [] [] (glAd "in_ascii" K) fd) (m : mg "in_ascii" = some (.ref (glAd "in_ascii" K))) (nb : Nm K mg) : Cal P w K mg base 1 "in_ascii" (sp_in_ascii K) [] := by
  refine calD F m sc_in_ascii (fun _ _ _ _ _ _ us hl => match us, hl with | [_], _ => rfl) len1 (fun cdv A outer s H vs Q E hr h => ⟨_, (pss_one (ps_ret (pe_lc (own := [("character", 1)]) (g := gName 1) (tt := tYes) rfl sc_in_ascii.nd (pi_str (pv 0)) (blkOk_by (N := ["string", "character"]) (sc := defScope s_in_ascii) (by decide +kernel)) (fun _ _ _ _ _ => pg_name (i := 1) sc_in_ascii.nd rfl (Or.inl rfl)) (fun _ _ _ _ _ => pts_nil) (fun _ _ _ _ _ => (pe_callB call_ord (by rfl) nb.ord (by decide +kernel) (pa_cons (pv 1) pa_nil)))))), ?_⟩)
  obtain ⟨_, rfl, x, rfl, hx, h⟩ := h
  walk_at "rf"
  refine r_lcS (x := S x) rfl (fun D i H' => H' D = some (.lst ((asc (x.take i)).map V.int)) ∧ ∀ b u, b ≠ D → H b = some u → H' b = some u) (fun D hD => ⟨upd_same, fun b u n z => (upd_ne n).trans z⟩) ?_ ?_
  · rintro D i c H' hD hc ⟨g1, g2⟩
    walk_at "rf"
    refine ⟨rfl, ?_⟩
    walk_at "rf"
    have hx2 : x[i]? = some c := by
      have := hc
      rw [S_at] at this
      exact this
    refine ⟨_, rfl, rfl, _, g1, small_asc hx i, ?_, fun b u n z => (upd_ne n).trans (g2 b u n z)⟩
    rw [upd_same, List.take_succ, hx2]
    unfold asc
    rw [List.map_append, List.map_append]
    rfl
  · rintro D H' hD ⟨g1, g2⟩
    have e : x.take (S x).cps.size = x := List.take_of_length_le (Nat.le_of_eq (S_size x).symm)
    rw [e] at g1
    exact h D H' hD g1 fun b u z => g2 b u (fun e => by rw [e, hD] at z; cases z) z
theorem ok_with_count (F : FunD K "with_count" "with_count" (defArgs s_with_count) (defBody s_with_count) (defScope s_with_count) [] [] (glAd "with_count" K) fd) (m : mg "with_count" = some (.ref (glAd "with_count" K))) (nb : Nm K mg) (c_digits_of : Cal P w K mg base 1 "digits_of" (sp_digits_of K) []) (c_in_ascii : Cal P w K mg base 1 "in_ascii" (sp_in_ascii K) []) : Cal P w K mg base 2 "with_count" (sp_with_count K) [] := by
  refine calD F m sc_with_count (fun _ _ _ _ _ _ us hl => match us, hl with | [_], _ => rfl) len1 (fun cdv A outer s H vs Q E hr h => ⟨_, (pss_one (ps_ret (pe_op op_cat (pe_op op_cat (pe_c c_in_ascii hr (by decide) rfl (pa_cons (pe_c c_digits_of hr (by decide) rfl (pa_cons (pe_callB call_len_seq (by rfl) nb.len PySem.boot_len (pa_cons (pv 0) pa_nil)) pa_nil)) pa_nil)) (pe_lstE (pa_cons (pe_gc rfl nb.g_COLON) pa_nil))) (pe_callTy call_list_ofE (by rfl) nb.list (by decide +kernel) (pa_cons (pv 0) pa_nil))))), ?_⟩)
  obtain ⟨_, rfl, p, os, rfl, hp, hl, h⟩ := h
  walk_at "rf"
  refine ⟨p, _, rfl, hp, ?_⟩
  rw [List.length_map]
  walk_at "rf"
  have l4 : os.length < 10 ^ 4 := by omega
  refine ⟨_, rfl, os.length, rfl, Nat.lt_of_lt_of_le l4 (Nat.pow_le_pow_right (by decide) (by decide)), fun H1 s1 => ?_⟩
  walk_at "rf"
  have dl := dg_lenP l4
  refine ⟨_, rfl, _, rfl, by omega, fun q2 H2 n2 g2 s2 => ?_⟩
  walk_at "rf"
  refine ⟨by show 1 ≤ sizeLine; decide, fun q3 H3 n3 g3 s3 => ?_⟩
  have g3 : H3 q3 = some (.lst (([58] : List Int).map V.int)) := g3
  have al := asc_len (dg os.length)
  refine r_catB (s3 _ _ g2) g3 (by rw [al]; show _ + 1 ≤ _; omega) fun q4 H4 n4 g4 s4 => ?_
  walk_at "rf"
  have s14 := s1.trans (s2.trans (s3.trans s4))
  have fin : ∀ l H5, H4 l = none → H5 l = some (.lst (os.map V.int)) → Same H4 H5 → rCat (.ref q4) (.ref l) H5 Q := fun l H5 nl gl s5 => by
    refine r_catB (s5 _ _ g4) gl (by rw [List.length_append, al]; show _ + 1 + _ ≤ _; omega) fun q6 H6 n6 g6 s6 => ?_
    exact h q6 H6 ((s14.trans s5).free n6) g6 ((s14.trans s5).trans s6)
  rcases hp with hp | hp
  · exact r_toL (s14.seq hp) fin
  · exact r_toLt (same_tup s14 hp) fin
theorem ok_signed_digits (F : FunD K "signed_digits" "signed_digits" (defArgs s_signed_digits) (defBody s_signed_digits) (defScope s_signed_digits) [] [] (glAd "signed_digits" K) fd) (m : mg "signed_digits" = some (.ref (glAd "signed_digits" K))) (nb : Nm K mg) (c_digits_of : Cal P w K mg base 1 "digits_of" (sp_digits_of K) []) : Cal P w K mg base 2 "signed_digits" (sp_signed_digits K) [] := by
  refine calD F m sc_signed_digits (fun _ _ _ _ _ _ us hl => match us, hl with | [_], _ => rfl) len1 (fun cdv A outer s H vs Q E hr h => ⟨_, (pss_cons (ps_set (i := 1) sc_signed_digits.nd rfl (Or.inl rfl) (pe_ifExp (pt_cmpR op_lt (pv 0) pe_int (nomark _)) pe_str pe_str))
    (pss_one (ps_ret (pe_op op_add_str (pv 1) (pe_c c_digits_of hr (by decide) rfl (pa_cons (pe_callB call_abs (by rfl) nb.abs (by decide +kernel) (pa_cons (pv 0) pa_nil)) pa_nil)))))), ?_⟩)
  obtain ⟨_, rfl, i, rfl, hi, h⟩ := h
  walk_at "rf"
  by_cases c : i < 0
  · rw [if_pos (by rw [decide_eq_true c])]
    walk_at "rf"
    refine ⟨_, rfl, i.natAbs, congrArg V.int (by split <;> omega), hi, fun H1 s1 => ?_⟩
    have dl := lt4000 hi
    refine r_add (x := "-") (a := [45]) (b := dg i.natAbs) rfl rfl (by show 1 + _ ≤ _; omega) ?_
    rw [S_cat]
    have h := h H1 s1
    rw [show sgnT i = [45] from if_pos c] at h
    exact h
  · rw [if_neg (by rw [decide_eq_false c]; decide)]
    walk_at "rf"
    refine ⟨_, rfl, i.natAbs, congrArg V.int (by split <;> omega), hi, fun H1 s1 => ?_⟩
    have dl := lt4000 hi
    refine r_add (x := "") (a := []) (b := dg i.natAbs) rfl rfl (by show 0 + _ ≤ _; omega) ?_
    rw [S_cat]
    have h := h H1 s1
    rw [show sgnT i = [] from if_neg c] at h
    exact h
theorem ok_leaf_octets (F : FunD K "leaf_octets" "leaf_octets" (defArgs s_leaf_octets) (defBody s_leaf_octets) (defScope s_leaf_octets) [] [] (glAd "leaf_octets" K) fd) (m : mg "leaf_octets" = some (.ref (glAd "leaf_octets" K))) (nb : Nm K mg) (c_whole : Cal P w K mg base 2 "whole" sp_whole []) (c_signed_digits : Cal P w K mg base 2 "signed_digits" (sp_signed_digits K) []) (c_in_ascii : Cal P w K mg base 1 "in_ascii" (sp_in_ascii K) []) (c_with_count : Cal P w K mg base 2 "with_count" (sp_with_count K) []) : Cal P w K mg base 3 "leaf_octets" (sp_leaf_octets K) [] := by
  refine calD F m sc_leaf_octets (fun _ _ _ _ _ _ us hl => match us, hl with | [_], _ => rfl) len1 (fun cdv A outer s H vs Q E hr h => ⟨_, (pss_cons (ps_if (pt_cmpR op_eq (pe_ix ix_tup (pv 0) pe_int (fun _ _ => rfl)) pe_str (nomark _))
    (pss_cons (ps_set (i := 1) sc_leaf_octets.nd rfl (Or.inl rfl) (pe_c c_whole hr (by decide) rfl (pa_cons (pe_ix ix_tup (pv 0) pe_int (fun _ _ => rfl)) (pa_cons (pe_ix ix_tup (pv 0) pe_int (fun _ _ => rfl)) (pa_cons (pe_gc rfl nb.g_LARGEST_EXPONENT) pa_nil)))))
    (pss_one (ps_ret (pe_c c_in_ascii hr (by decide) rfl (pa_cons (pe_op op_add_str (pe_op op_add_str pe_str (pe_c c_signed_digits hr (by decide) rfl (pa_cons (pv 1) pa_nil))) pe_str) pa_nil)))))
    pss_nil)
    (pss_one (ps_ret (pe_c c_with_count hr (by decide) rfl (pa_cons (pe_ix ix_tup (pv 0) pe_int (fun _ _ => rfl)) pa_nil))))), ?_⟩)
  obtain ⟨_, rfl, k, r, tp, lb, h⟩ := h
  obtain ⟨a, ws, rfl, ha, hw⟩ := tp_lf (k := k) (r := r) tp
  cases lb with
  | number m e nf hm =>
    obtain rfl : ws = [.int m, .int e] := by
      cases hw with
      | cons h1 h2 =>
        cases h1
        cases h2 with
        | cons h1 h2 =>
          cases h1
          cases h2
          rfl
    walk_at "rf"
    refine r_ixT (SqT.of ha) (atI_nat (j := 0) rfl) ?_
    walk_at "rf"
    refine r_ite (fun _ => ?_) (fun c => absurd rfl c)
    walk_at "rf"
    refine r_ixT (SqT.of ha) (atI_nat (j := 1) rfl) ?_
    walk_at "rf"
    refine r_ixT (SqT.of ha) (atI_nat (j := 2) rfl) ?_
    walk_at "rf"
    obtain ⟨e0, e8⟩ : 0 ≤ e ∧ e ≤ 800 := by
      rcases nf with ⟨_, h⟩ | h
      · omega
      · omega
    refine ⟨_, _, _, rfl, m, e, 800, rfl, rfl, rfl, by decide, Nat.lt_of_lt_of_le hm (Nat.le_trans (Nat.pow_le_pow_left (by decide : 10 ≤ 2 ^ 4) 60) (by rw [← Nat.pow_mul]; exact Nat.pow_le_pow_right (by decide) (by decide))), fun _ => ?_, fun z => absurd ⟨e0, e8⟩ z⟩
    walk_at "rf"
    have big : (m * 10 ^ e.toNat).natAbs < 10 ^ 4000 := by
      rw [Int.natAbs_mul, natAbs10]
      refine Nat.lt_of_lt_of_le (Nat.mul_lt_mul_of_lt_of_le hm (pow10_le (a := e.toNat) (b := 800) (by omega)) (Nat.pow_pos (by decide))) ?_
      rw [← Nat.pow_add]
      exact pow10_le (by decide)
    refine ⟨_, rfl, m * 10 ^ e.toNat, rfl, big, fun H1 s1 => ?_⟩
    have dl := lt4000 big
    have sl : (sgnT (m * 10 ^ e.toNat)).length ≤ 1 := by
      unfold sgnT
      split <;> decide
    have hx := out_num nf
    generalize hT : sgnT (m * 10 ^ e.toNat) ++ dg (m * 10 ^ e.toNat).natAbs = T at hx
    have tl : T.length ≤ 4002 := by
      rw [← hT, List.length_append]
      omega
    refine r_add (x := "i") (a := [105]) (b := T) rfl rfl (by show 1 + _ ≤ _; omega) ?_
    rw [S_cat]
    walk_at "rf"
    refine r_add (y := "e") (a := [105] ++ T) (b := [101]) rfl rfl (by rw [List.length_append]; show 1 + _ + 1 ≤ _; omega) ?_
    rw [S_cat]
    walk_at "rf"
    rw [lfO_num, ← hx] at h
    exact ⟨_, rfl, _, rfl, by rw [List.length_append, List.length_append]; show 1 + _ + 1 ≤ _; omega, h.same s1⟩
  | bytes os hl =>
    obtain ⟨t0, rfl, ht⟩ : ∃ t0, ws = [.ref t0] ∧ H t0 = some (.tup (os.map V.int)) := by
      cases hw with
      | cons h1 h2 =>
        cases h2
        obtain ⟨t0, rfl, ht⟩ := tp_kdB h1
        exact ⟨t0, rfl, ht⟩
    walk_at "rf"
    refine r_ixT (SqT.of ha) (atI_nat (j := 0) rfl) ?_
    walk_at "rf"
    refine r_iteN (show ¬ ("bytes" : Str) = "number" by decide +kernel) ?_
    walk_at "rf"
    refine r_ixT (SqT.of ha) (atI_nat (j := 1) rfl) ?_
    walk_at "rf"
    rw [lfO_bytes] at h
    exact ⟨_, rfl, t0, os, rfl, .inr (SqT.of ht), by omega, h⟩
theorem ok_key_octets (F : FunD K "key_octets" "key_octets" (defArgs s_key_octets) (defBody s_key_octets) (defScope s_key_octets) [] [] (glAd "key_octets" K) fd) (m : mg "key_octets" = some (.ref (glAd "key_octets" K))) (nb : Nm K mg) (c_with_count : Cal P w K mg base 2 "with_count" (sp_with_count K) []) (c_encode : Cal P w K mg base 2 "encode" (sp_encode K) []) : Cal P w K mg base 3 "key_octets" (sp_key_octets K) [] := by
  refine calD F m sc_key_octets (fun _ _ _ _ _ _ us hl => match us, hl with | [_], _ => rfl) len1 (fun cdv A outer s H vs Q E hr h => ⟨_, (pss_one (ps_ret (pe_c c_with_count hr (by decide) rfl (pa_cons (pe_c c_encode hr (by decide) rfl (pa_cons (pv 0) pa_nil)) pa_nil)))), ?_⟩)
  obtain ⟨_, rfl, p, ps, rfl, hp, kp, h⟩ := h
  walk_at "rf"
  refine ⟨_, rfl, p, ps, rfl, .inr hp, kp.2, Nat.lt_of_le_of_lt (Nat.mul_le_mul_left 4 kp.1) (by decide), fun l H1 nl gl s1 => ?_⟩
  walk_at "rf"
  refine ⟨_, rfl, l, encs ps, rfl, .inl (SqL.of gl), by have := len_encs ps; have := kp.1; omega, fun q H2 n2 g2 s2 => ?_⟩
  exact h q H2 (s1.free n2) g2 (s1.trans s2)
end

/-! ### sorted(x), x a list of data that is in order already -/
def rSortedS (K : Frg) : List V → Hp → VK → Prop := fun vs H Q => ∃ (a : Addr) (xs : List V) (ds : List PyData), vs = [V.ref a] ∧ SqL K H a xs ∧ DpAll K H xs ds ∧ PySem.W.AllAlike ds ∧ PySem.W.Sortable ds ∧ (∀ d ∈ ds, d.depth ≤ 40) ∧ ds.Pairwise (fun x y => PySem.W.dataLe false id x y = true) ∧
  ∀ p, H p = none → Q (.ref p) (upd H p (.lst xs))
theorem dpAll_each {K : Frg} {X : Cx} {pins : List (Addr × Obj)} {σ : St} {H : Hp} {s : Shared} (I : Inv X pins σ H s) (eK : X.K = K) : ∀ {xs : List V} {ds : List PyData} {us : List Value}, DpAll K H xs ds → Vals xs us →
    PySem.W.EachIs (fun u (b : V × PyData) => RelV b.1 u) us (xs.zip ds) ∧ PySem.W.EachIs (fun u (b : V × PyData) => ∃ as, Reads s.heap u b.2 as) us (xs.zip ds) ∧ (xs.zip ds).map (·.2) = ds ∧ (xs.zip ds).map (·.1) = xs
  | _, _, _, .nil, .nil => ⟨.nil, .nil, rfl, rfl⟩
  | _, _, _, .cons h t, .cons r rs => by
    obtain ⟨a, b, c, d⟩ := dpAll_each I eK t rs
    subst eK
    obtain ⟨as, q⟩ := Dp.reads I _ _ _ h r
    exact ⟨.cons r a, .cons ⟨as, q⟩ b, congrArg _ c, congrArg _ d⟩
theorem each_vals : ∀ {us : List Value} {bs : List (V × PyData)}, PySem.W.EachIs (fun u (b : V × PyData) => RelV b.1 u) us bs → Vals (bs.map (·.1)) us
  | _, _, .nil => .nil
  | _, _, .cons r t => .cons r (each_vals t)
theorem cr_sortedS {X : Cx} (hu : X.A.units + 64 < cLine) : CallR X (.builtin "sorted") (rSortedS X.K) := by
  intro pins s σ H vs us Q I r h
  obtain ⟨a, xs, ds, rfl, hs, hd, hal, hk, hdp, hso, q⟩ := h
  obtain ⟨its, rv, hl, hz⟩ := I.list hs
  obtain ⟨u, rfl, ru⟩ := vals1 r
  obtain rfl : u = Value.ref a := ru
  obtain ⟨e1, e2, e3, e4⟩ := dpAll_each I rfl hd rv
  have hlen : (xs.zip ds).length ≤ sizeLine := by
    have := congrArg List.length e4
    rw [List.length_map] at this
    omega
  refine PySem.W.sorted_data (enc := fun b : V × PyData => b.2) hl.isList e1 e2 (by rw [e3]; exact hal) (by rw [e3]; exact hk) hlen (fun b hb => ?_) fun out ho eo => ?_
  · have hb2 : b.2 ∈ ds := by
      rw [← e3]
      exact List.mem_map_of_mem hb
    have := hdp _ hb2
    omega
  · have srt : (xs.zip ds).mergeSort (PySem.W.dataLe false fun b : V × PyData => b.2) = xs.zip ds := by
      refine List.mergeSort_of_pairwise ?_
      rw [← e3] at hso
      exact List.pairwise_map.mp hso
    rw [srt] at eo
    have vo := each_vals eo
    rw [e4] at vo
    obtain ⟨n, hn⟩ := PyProof.Rows.sortedAll_at s.heap its out.toArray
    have kp : ∀ b o, s.heap.get? b = some o → (PyProof.Rows.sortedAll s.heap its out.toArray).get? b = some o := fun b o e => PyProof.Rows.sortedAll_old e
    refine ⟨.ref (s.heap.objs.size + 1), upd H (s.heap.objs.size + 1) (.lst xs), I.laid (t' := s.toks) kp (Nat.le_succ _) ⟨hz, out, n, vo, hn⟩, rfl, q _ (I.hok.fresh (Nat.le_succ _))⟩

/-! ### the order of points is the order of their octets -/
theorem lex_fst {x y : Int} (h : x < y) (xs ys : List Int) : HT.lexLt (x :: xs) (y :: ys) = true := by
  rw [HT.lexLt_cons, if_neg (Int.ne_of_lt h), decide_eq_true h]
theorem lex_two {x y : Int} {xs ys : List Int} (h : x < y ∨ (x = y ∧ HT.lexLt xs ys = true)) : HT.lexLt (x :: xs) (y :: ys) = true := by
  rcases h with h | ⟨rfl, h⟩
  · exact lex_fst h _ _
  · rw [HT.lexLt_cons, if_pos rfl]
    exact h
theorem enc1_lt {a b : Int} (ha : 0 ≤ a) (hb : b ≤ 1114111) (h : a < b) (X Y : List Int) : HT.lexLt (enc1 a ++ X) (enc1 b ++ Y) = true := by
  by_cases c1 : a < 128
  · rw [enc_low c1]
    by_cases d1 : b < 128
    · rw [enc_low d1]
      exact lex_fst h _ _
    · rcases enc_long (c := b) (by omega) with ⟨q, _, e⟩ | ⟨q, q2, _, e⟩ | ⟨q, _, e⟩ <;> rw [e] <;> exact lex_fst (by omega) _ _
  · rcases enc_long (c := a) (by omega) with ⟨p, _, e⟩ | ⟨p, p2, _, e⟩ | ⟨p, _, e⟩ <;> rcases enc_long (c := b) (by omega) with ⟨q, _, f⟩ | ⟨q, q2, _, f⟩ | ⟨q, _, f⟩ <;> rw [e, f] <;> (try (exfalso; omega)) <;> (try exact lex_fst (by omega) _ _)
    · refine lex_two ?_
      by_cases d : a / 64 = b / 64
      · exact .inr ⟨by omega, lex_fst (by omega) _ _⟩
      · exact .inl (by omega)
    · refine lex_two ?_
      by_cases d : a / 4096 = b / 4096
      · refine .inr ⟨by omega, lex_two ?_⟩
        by_cases d2 : a / 64 % 64 = b / 64 % 64
        · exact .inr ⟨by omega, lex_fst (by omega) _ _⟩
        · exact .inl (by omega)
      · exact .inl (by omega)
    · refine lex_two ?_
      by_cases d : a / 262144 = b / 262144
      · refine .inr ⟨by omega, lex_two ?_⟩
        by_cases d2 : a / 4096 % 64 = b / 4096 % 64
        · refine .inr ⟨by omega, lex_two ?_⟩
          by_cases d3 : a / 64 % 64 = b / 64 % 64
          · exact .inr ⟨by omega, lex_fst (by omega) _ _⟩
          · exact .inl (by omega)
        · exact .inl (by omega)
      · exact .inl (by omega)
theorem lex_app : ∀ (p a b : List Int), HT.lexLt (p ++ a) (p ++ b) = HT.lexLt a b
  | [], _, _ => rfl
  | x :: p, a, b => by
    show HT.lexLt (x :: (p ++ a)) (x :: (p ++ b)) = _
    rw [HT.lexLt_cons, if_pos rfl]
    exact lex_app p a b
theorem encs_lt : ∀ {a b : List Int}, (∀ c ∈ a, Point c) → (∀ c ∈ b, Point c) → HT.lexLt a b = true → HT.lexLt (encs a) (encs b) = true
  | [], [], _, _, h => h
  | [], y :: ys, _, _, _ => by
    show HT.lexLt [] (enc1 y ++ encs ys) = true
    have l := (len_enc1 y).1
    cases e : enc1 y with
    | nil => rw [e] at l; exact absurd l (by decide)
    | cons z zs => rfl
  | _ :: _, [], _, _, h => by cases h
  | x :: xs, y :: ys, ha, hb, h => by
    rw [HT.lexLt_cons] at h
    show HT.lexLt (enc1 x ++ encs xs) (enc1 y ++ encs ys) = true
    by_cases c : x = y
    · subst c
      rw [if_pos rfl] at h
      rw [lex_app]
      exact encs_lt (fun c hc => ha c (List.mem_cons_of_mem _ hc)) (fun c hc => hb c (List.mem_cons_of_mem _ hc)) h
    · rw [if_neg c] at h
      exact enc1_lt (ha x (List.mem_cons_self ..)).1 (hb y (List.mem_cons_self ..)).2.1 (of_decide_eq_true h) _ _
theorem lex_lt : ∀ a b : List Int, HT.lexLt a b = decide (a < b)
  | [], [] => rfl
  | [], _ :: _ => by rw [decide_eq_true (List.nil_lt_cons _ _)]; rfl
  | _ :: _, [] => by rw [decide_eq_false (List.not_lt_nil _)]; rfl
  | x :: xs, y :: ys => by
    rw [HT.lexLt_cons]
    by_cases c : x = y
    · rw [if_pos c, lex_lt xs ys]
      simp [c, List.cons_lt_cons_iff]
    · rw [if_neg c]
      simp [c, List.cons_lt_cons_iff]
/-- a key's octets and its value's -/
def keyD (a b : List Int) : PyData := .tuple [.list (a.map PyData.int), .list (b.map PyData.int)]
theorem alike_il (a b : List Int) : PySem.W.alike (.list (a.map PyData.int)) (.list (b.map PyData.int)) = true := PySem.W.alike_ints a b
theorem keyD_alike (a b c d : List Int) : PySem.W.alike (keyD a b) (keyD c d) = true := by
  unfold keyD
  simp [PySem.W.alike, PySem.W.alikeAll, PySem.W.alike_ints]
theorem keyD_le {a b : List Int} (c d : List Int) (h : HT.lexLt a b = true) : PySem.W.dataLe false id (keyD a c) (keyD b d) = true := by
  have hn : ¬ b = a := fun z => by
    rw [z, lexLt_irr] at h
    cases h
  have hl := lexLt_asym _ _ h
  rw [lex_lt] at hl
  show (!PySem.W.dataLt (keyD b d) (keyD a c)) = true
  unfold keyD
  rw [PySem.W.dataLt_pair (alike_il b a) (alike_il d c), eqv_ints, decide_eq_false hn, if_neg Bool.false_ne_true, PySem.W.dataLt_list]
  show (!PySem.W.rowLt (b.map .int) (a.map .int)) = true
  rw [PySem.W.dataLt_ints, hl]
  rfl
theorem keyD_depth (a b : List Int) : (keyD a b).depth ≤ 40 := by
  simp [keyD, PyData.depth, PyData.depthAll, depth_ints]

/-! ### what is written -/






mutual
/-- the octets of a value of numbers, octets, lists and maps -/
def octV : Vl → List Int
  | .lf k r => lfO k r
  | .ls xs => 108 :: (octL xs ++ [101])
  | .mp es => 100 :: (octM es ++ [101])
def octL : List Vl → List Int
  | [] => []
  | x :: xs => octV x ++ octL xs
def octM : List (List Int × Vl) → List Int
  | [] => []
  | (k, v) :: es => strO (encs k) ++ octV v ++ octM es
end
theorem octL_app : ∀ xs ys : List Vl, octL (xs ++ ys) = octL xs ++ octL ys
  | [], _ => rfl
  | x :: xs, ys => by
    show octV x ++ octL (xs ++ ys) = octV x ++ octL xs ++ octL ys
    rw [octL_app xs ys, List.append_assoc]
theorem octL_take {xs : List Vl} {i : Nat} {x : Vl} (h : xs[i]? = some x) : octL (xs.take (i + 1)) = octL (xs.take i) ++ octV x := by
  rw [List.take_add_one, h, octL_app]
  congr 1
  exact List.append_nil _
theorem octL_le : ∀ (xs : List Vl) (i : Nat), (octL (xs.take i)).length ≤ (octL xs).length
  | [], i => by rw [List.take_nil]; exact Nat.le_refl _
  | x :: xs, 0 => Nat.zero_le _
  | x :: xs, i + 1 => by
    show (octV x ++ octL (xs.take i)).length ≤ (octV x ++ octL xs).length
    rw [List.length_append, List.length_append]
    have := octL_le xs i
    omega
theorem octV_le {xs : List Vl} {i : Nat} {x : Vl} (h : xs[i]? = some x) : (octL (xs.take i)).length + (octV x).length ≤ (octL xs).length := by
  have q := octL_le xs (i + 1)
  rw [octL_take h, List.length_append] at q
  exact q
theorem octM_app : ∀ xs ys : List (List Int × Vl), octM (xs ++ ys) = octM xs ++ octM ys
  | [], _ => rfl
  | (k, v) :: xs, ys => by
    show strO (encs k) ++ octV v ++ octM (xs ++ ys) = strO (encs k) ++ octV v ++ octM xs ++ octM ys
    rw [octM_app xs ys]
    exact (List.append_assoc _ _ _).symm
theorem octM_take {xs : List (List Int × Vl)} {i : Nat} {k : List Int} {x : Vl} (h : xs[i]? = some (k, x)) : octM (xs.take (i + 1)) = octM (xs.take i) ++ (strO (encs k) ++ octV x) := by
  rw [List.take_add_one, h, octM_app]
  congr 1
  exact List.append_nil _
theorem octM_le : ∀ (xs : List (List Int × Vl)) (i : Nat), (octM (xs.take i)).length ≤ (octM xs).length
  | [], i => by rw [List.take_nil]; exact Nat.le_refl _
  | (k, x) :: xs, 0 => Nat.zero_le _
  | (k, x) :: xs, i + 1 => by
    show (strO (encs k) ++ octV x ++ octM (xs.take i)).length ≤ (strO (encs k) ++ octV x ++ octM xs).length
    rw [List.length_append, List.length_append (bs := octM xs)]
    have := octM_le xs i
    omega
theorem octW_le {xs : List (List Int × Vl)} {i : Nat} {k : List Int} {x : Vl} (h : xs[i]? = some (k, x)) : (octM (xs.take i)).length + ((strO (encs k)).length + (octV x).length) ≤ (octM xs).length := by
  have q := octM_le xs (i + 1)
  rw [octM_take h, List.length_append, List.length_append] at q
  exact q
/-- list.extend of integers -/
theorem r_extC {a b : Addr} {xs ys : List Int} {H : Hp} {Q : VK} (h1 : H a = some (.lst (xs.map V.int))) (h2 : H b = some (.lst (ys.map V.int))) (hl : xs.length + ys.length ≤ 16700000) (h : ∀ H', H' a = some (.lst ((xs ++ ys).map V.int)) → (∀ c o, c ≠ a → H c = some o → H' c = some o) → Q .non H') : rExtend (.ref a) [.ref b] H Q :=
  ⟨a, b, _, _, rfl, rfl, h1, h2, by rw [List.length_map, List.length_map]; exact Nat.le_trans hl (by decide), h _ (by rw [upd_same, cat_ints]) fun c o n e => (upd_ne n).trans e⟩
theorem same_on {H H1 H2 : Hp} {p : Addr} (s : Same H H1) (np : H p = none) (k : ∀ c o, c ≠ p → H1 c = some o → H2 c = some o) : Same H H2 := fun b o e => k b o (fun z => by rw [z, np] at e; cases e) (s b o e)
/-- what does not lack -/
theorem num_lb {k : Str} {r : List PyData} (h : Lg k r) : NumK k r := fun z => by
  cases h with
  | of h =>
    cases h with
    | number m e _ _ => exact ⟨m, e, rfl⟩
    | bytes os _ => exact absurd z (by decide +kernel)
  | far m e _ => exact ⟨m, e, rfl⟩
  | odd k r h => rcases h with e | e | e <;> (rw [e] at z; exact absurd z (by decide +kernel))
theorem lack_odd {k : Str} {r : List PyData} (h : k = "null" ∨ k = "truth" ∨ k = "text") : lackK k r = true := by
  rcases h with e | e | e <;> subst e <;> (unfold lackK; rw [if_neg (by decide +kernel)]; decide +kernel)
theorem lack_bytes (r : List PyData) : lackK "bytes" r = false := by
  unfold lackK
  rw [if_neg (by decide +kernel)]
  decide +kernel
theorem lack_num (m e : Int) : lackK "number" [.int m, .int e] = !(decide (0 ≤ e) && decide (e ≤ 800)) := rfl
theorem lg_lb {k : Str} {r : List PyData} (h : Lg k r) (z : lackK k r = false) : Lb k r := by
  cases h with
  | of h => exact h
  | far m e h =>
    rw [lack_num] at z
    by_cases c : 0 ≤ e
    · rw [decide_eq_true c, decide_eq_false (fun q => h ⟨c, q⟩)] at z
      cases z
    · rw [decide_eq_false c] at z
      cases z
  | odd k r h =>
    rw [lack_odd h] at z
    cases z
/-- a drawn value without what is lacking -/
def Full (d : Vl) : Prop := ∀ x ∈ preV d, lackV x = false
theorem preL_mem : ∀ {xs : List Vl} {x y : Vl}, x ∈ xs → y ∈ preV x → y ∈ preL xs
  | [], x, _, h, _ => absurd h (by simp)
  | z :: zs, x, y, h, hy => by
    rcases List.mem_cons.mp h with e | e
    · subst e
      exact List.mem_append_left _ hy
    · exact List.mem_append_right _ (preL_mem e hy)
theorem Full.item {xs : List Vl} (h : Full (.ls xs)) {x : Vl} (hx : x ∈ xs) : Full x := fun y hy => h y (List.mem_cons_of_mem _ (preL_mem hx hy))
theorem Full.part {es : List (List Int × Vl)} (h : Full (.mp es)) {e : List Int × Vl} (he : e ∈ es) : Full e.2 := fun y hy => h y (List.mem_cons_of_mem _ (by
  rw [preM_eq, ← preL_eq]
  exact preL_mem (List.mem_map_of_mem he) hy))
theorem Full.leaf {n : Nat} {k : Str} {r : List PyData} (g : (Vl.lf k r).gf n) (h : Full (.lf k r)) : Lb k r := lg_lb (by cases n <;> exact g) (h _ (List.mem_cons_self ..))
def sp_wr (K : Frg) (n : Nat) : Sp := sp1 fun a H Q _ => ∃ (d : Vl) (m : Nat), Tp H a d.dat ∧ d.gf m ∧ Full d ∧ m < n ∧ (octV d).length ≤ 16000000 ∧ Out H (octV d) Q
def sp__octets_of (K : Frg) (n : Nat) : Sp := sp_wr K n
def sp__law_written (K : Frg) (n : Nat) : Sp := sp_wr K n
theorem no_wr {K : Frg} {vs : List V} {H : Hp} {Q : VK} {E : XK} (h : sp_wr K 0 vs H Q E) : False := by
  obtain ⟨_, _, d, m, _, _, _, h, _⟩ := h
  exact absurd h (Nat.not_lt_zero _)
theorem no__octets_of {K : Frg} {vs : List V} {H : Hp} {Q : VK} {E : XK} (h : sp__octets_of K 0 vs H Q E) : False := no_wr h
theorem no__law_written {K : Frg} {vs : List V} {H : Hp} {Q : VK} {E : XK} (h : sp__law_written K 0 vs H Q E) : False := no_wr h
def sp__law_ascii (K : Frg) : Sp := sp1 fun a H Q _ => ∃ x : List Nat, a = .str (S x) ∧ x.length ≤ 10000 ∧ Out H (asc x) Q
def sp__law_utf8 (K : Frg) : Sp := sp1 fun a H Q _ => ∃ (p : Addr) (ps : List Int), a = .ref p ∧ H p = some (.tup (ps.map V.int)) ∧ ps.length ≤ 200 ∧ Out H (encs ps) Q
def sp__law_string (K : Frg) : Sp := sp1 fun a H Q _ => ∃ (p : Addr) (os : List Int), a = .ref p ∧ (SqL K H p (os.map V.int) ∨ SqT K H p (os.map V.int)) ∧ os.length ≤ 4000 ∧ Out H (strO os) Q
def sp__law_leaf_written (K : Frg) : Sp := sp1 fun a H Q _ => ∃ k r, Tp H a (.tuple (.str k :: r)) ∧ Lb k r ∧ Out H (lfO k r) Q
theorem out_new {H : Hp} {xs : List Int} {Q : VK} (h : Out H xs Q) {p : Addr} (hp : H p = none) : Q (.ref p) (upd H p (.lst (xs.map V.int))) := h p _ hp upd_same (same_upd hp _)
def sgn (m : Int) : List Nat := if m < 0 then [45] else []
def sdg (m : Int) : List Nat := sgn m ++ dg m.natAbs
theorem str_sdg : ∀ m : Int, Str.ofString (toString m) = S (sdg m)
  | .ofNat n => by
    have e : sdg (.ofNat n) = dg n := by
      unfold sdg sgn
      have c : ¬ Int.ofNat n < 0 := Int.not_lt.mpr (Int.natCast_nonneg n)
      rw [if_neg c]
      rfl
    rw [e]
    exact str_dg n
  | .negSucc n => by
    have e : sdg (.negSucc n) = [45] ++ dg (n + 1) := by
      unfold sdg sgn
      rw [if_pos (Int.negSucc_lt_zero n)]
      rfl
    rw [e]
    refine (S_tl _).symm.trans (congrArg S ?_)
    rw [PyProof.Rows.signs_ofString]
    show (("-" ++ Nat.repr (n + 1)).toList.map Char.toNat) = _
    rw [String.toList_append, List.map_append, Nat.toList_repr]
    rfl
theorem sdg_len {m : Int} {k : Nat} (h : m.natAbs < 10 ^ k) : (sdg m).length ≤ k + 2 := by
  have a := dg_lenP h
  have b : (sgn m).length ≤ 1 := by
    unfold sgn
    split <;> simp
  unfold sdg
  rw [List.length_append]
  omega
/-- a tuple of two new lists, the octets of a key and of its value -/
def KyAt (D : Addr) (H : Hp) (v : V) (en : List Int × Vl) : Prop := ∃ c p q : Addr, v = .ref c ∧ H c = some (.tup [.ref p, .ref q]) ∧ H p = some (.lst ((encs en.1).map V.int)) ∧ H q = some (.lst ((octV en.2).map V.int)) ∧ p ≠ D ∧ q ≠ D
theorem KyAt.same {D : Addr} {H H' : Hp} {v : V} {en : List Int × Vl} (s : Same H H') (h : KyAt D H v en) : KyAt D H' v en := by
  obtain ⟨c, p, q, e, h1, h2, h3, h4⟩ := h
  exact ⟨c, p, q, e, s _ _ h1, s _ _ h2, s _ _ h3, h4⟩
theorem KyAt.put {D : Addr} {H : Hp} {v : V} {en : List Int × Vl} {ws us : List V} (g : H D = some (.lst ws)) (h : KyAt D H v en) : KyAt D (upd H D (.lst us)) v en := by
  obtain ⟨c, p, q, e, h1, h2, h3, h4, h5⟩ := h
  have hc : c ≠ D := fun z => by rw [z, g] at h1; cases h1
  exact ⟨c, p, q, e, (upd_ne hc).trans h1, (upd_ne h4).trans h2, (upd_ne h5).trans h3, h4, h5⟩
theorem paired_imp {α β : Type} {R S : α → β → Prop} (f : ∀ a b, R a b → S a b) : ∀ {xs : List α} {ys : List β}, Paired R xs ys → Paired S xs ys
  | _, _, .nil => .nil
  | _, _, .cons r t => .cons (f _ _ r) (paired_imp f t)
/-- list + list -/
theorem ky_dp {K : Frg} {D : Addr} {H : Hp} : ∀ {ws : List V} {es : List (List Int × Vl)}, Paired (KyAt D H) ws es → DpAll K H ws (es.map fun e => keyD (encs e.1) (octV e.2))
  | _, _, .nil => .nil
  | _, _, .cons ⟨c, p, q, e, h1, h2, h3, _⟩ t => by
    subst e
    exact .cons (.tup (SqT.of h1) (.cons (.lst (SqL.of h2) (dpa_ints _)) (.cons (.lst (SqL.of h3) (dpa_ints _)) .nil))) (ky_dp t)
section
variable {P : Program} {w : World} {K : PySem.W.Frag} {mg : Str → Option Value} {base : Heap} {f : Addr} {fd : FuncData}
theorem ok__octets_of (n : Nat) (F : FunD K "_octets_of" "_octets_of" (defArgs s__octets_of) (defBody s__octets_of) (defScope s__octets_of) [] [] (glAd "_octets_of" K) fd) (m : mg "_octets_of" = some (.ref (glAd "_octets_of" K))) (nb : Nm K mg) (c_leaf_octets : Cal P w K mg base 3 "leaf_octets" (sp_leaf_octets K) []) (c_key_octets : Cal P w K mg base 3 "key_octets" (sp_key_octets K) []) (c__octets_of : Cal P w K mg base (4 + n) "_octets_of" (sp__octets_of K n) []) : Cal P w K mg base (4 + n + 1) "_octets_of" (sp__octets_of K (n + 1)) [] := by
  refine calD F m sc__octets_of (fun _ _ _ _ _ _ us hl => match us, hl with | [_], _ => rfl) len1 (fun cdv A outer s H vs Q E hr h => ⟨_, (pss_cons (ps_if (pt_cmpR op_notIn_seq (pe_ix ix_tup (pv 0) pe_int (fun _ _ => rfl)) (pe_tupE (pa_cons pe_str (pa_cons pe_str pa_nil))) rfl)
    (pss_one (ps_ret (pe_c c_leaf_octets hr (by omega) rfl (pa_cons (pv 0) pa_nil))))
    pss_nil)
    (pss_cons (ps_set (i := 1) sc__octets_of.nd rfl (Or.inl rfl) (pe_lstE (pa_cons (pe_ifExp (pt_cmpR op_eq (pe_ix ix_tup (pv 0) pe_int (fun _ _ => rfl)) pe_str (nomark _)) (pe_gc rfl nb.g_SMALL_L) (pe_gc rfl nb.g_SMALL_D)) pa_nil)))
    (pss_cons (ps_if (pt_cmpR op_eq (pe_ix ix_tup (pv 0) pe_int (fun _ _ => rfl)) pe_str (nomark _))
    (pss_one (ps_for PassesOwn.never rfl (pi_tup (pe_ix ix_tup (pv 0) pe_int (fun _ _ => rfl))) (pg_name (i := 2) sc__octets_of.nd rfl (Or.inl rfl))
    (pss_one (ps_expr (pe_bm PySem.F.plainAttrs_list PySem.F.slot_list_extend PySem.F.type_list_extend mt_extend (pv 1) (pa_cons (pe_c c__octets_of hr (by omega) rfl (pa_cons (pv 2) pa_nil)) pa_nil))))))
    (pss_one (ps_for PassesOwn.never rfl (pi_tup (pe_ix ix_tup (pv 0) pe_int (fun _ _ => rfl))) (pg_tup rfl (pgs_cons (pg_name (i := 3) sc__octets_of.nd rfl (Or.inl rfl)) (pgs_cons (pg_name (i := 4) sc__octets_of.nd rfl (Or.inl rfl)) pgs_nil)))
    (pss_cons (ps_expr (pe_bm PySem.F.plainAttrs_list PySem.F.slot_list_extend PySem.F.type_list_extend mt_extend (pv 1) (pa_cons (pe_c c_key_octets hr (by omega) rfl (pa_cons (pv 3) pa_nil)) pa_nil)))
    (pss_one (ps_expr (pe_bm PySem.F.plainAttrs_list PySem.F.slot_list_extend PySem.F.type_list_extend mt_extend (pv 1) (pa_cons (pe_c c__octets_of hr (by omega) rfl (pa_cons (pv 4) pa_nil)) pa_nil))))))))
    (pss_cons (ps_expr (pe_bm PySem.F.plainAttrs_list PySem.F.slot_list_append PySem.F.type_list_append mt_append (pv 1) (pa_cons (pe_gc rfl nb.g_SMALL_E) pa_nil)))
    (pss_one (ps_ret (pv 1))))))), ?_⟩)
  obtain ⟨_, rfl, d, m, t, gf, fu, hm, hz, h⟩ := h
  -- 0:value 1:octets 2:item 3:key 4:part
  cases d with
  | lf k r =>
    have lb := Full.leaf gf fu
    obtain ⟨a, us, rfl, ha, hu⟩ := tp_tup t
    cases hu with
    | cons r1 r2 =>
    cases r1
    have hk : (decide (k = "list") || decide (k = "map")) = false := by
      cases lb <;> decide +kernel
    walk_at "rf"
    refine r_ixT (SqT.of ha) (atI_nat (j := 0) rfl) ?_
    walk_at "rf"
    refine ⟨by show 2 ≤ sizeLine; decide, fun q H2 n2 g2 s2 => ?_⟩
    refine ⟨q, _, rfl, .inr (SqT.of g2), rfl, rfl, ?_⟩
    rw [if_pos rfl, in_two, hk]
    walk_at "rf"
    exact ⟨_, rfl, k, r, Tp.tk (Same.tk s2) _ _ t, lb, h.same s2⟩
  | mp es =>
    obtain ⟨m, rfl⟩ : ∃ q, m = q + 1 := by
      cases m with
      | zero => exact gf.elim
      | succ m => exact ⟨m, rfl⟩
    obtain ⟨hl, _, kp, gf⟩ := gf
    obtain ⟨a, us, rfl, ha, hu⟩ := tp_tup t
    cases hu with
    | cons r1 r2 =>
    cases r1
    cases r2 with
    | cons r2 r3 =>
    cases r3
    obtain ⟨b, vs, rfl, hb, hv⟩ := tp_tup r2
    walk_at "rf"
    refine r_ixT (SqT.of ha) (atI_nat (j := 0) rfl) ?_
    walk_at "rf"
    refine ⟨by show 2 ≤ sizeLine; decide, fun q H1 n1 g1 s1 => ?_⟩
    refine ⟨q, _, rfl, .inr (SqT.of g1), rfl, rfl, ?_⟩
    rw [if_pos rfl, in_two, show (!(decide (("map" : Str) = "list") || decide (("map" : Str) = "map"))) = false by decide +kernel]
    walk_at "rf"
    refine r_ixT (SqT.of (s1 _ _ ha)) (atI_nat (j := 0) rfl) ?_
    walk_at "rf"
    rw [if_neg (show ¬ decide (("map" : Str) = "list") = true by decide +kernel)]
    walk_at "rf"
    refine ⟨by show 1 ≤ sizeLine; decide, fun p H2 np g2 s2 => ?_⟩
    have g2 : H2 p = some (.lst (([100] : List Int).map V.int)) := g2
    have s2 := s1.trans s2
    have np : H p = none := s1.free np
    walk_at "rf"
    refine r_ixT (SqT.of (s2 _ _ ha)) (atI_nat (j := 0) rfl) ?_
    walk_at "rf"
    refine r_iteN (show ¬ ("map" : Str) = "list" by decide +kernel) ?_
    walk_at "rf"
    refine r_ixT (SqT.of (s2 _ _ ha)) rfl ?_
    walk_at "rf"
    have hz : (100 :: (octM es ++ [101])).length ≤ 16000000 := hz
    rw [List.length_cons, List.length_append] at hz
    have hvl : vs.length = es.length := by rw [tpAll_len hv, datM_map, List.length_map]
    refine ⟨b, rfl, ⟨vs, SqT.of (s2 _ _ hb)⟩, r_eachT (xs := vs) (fun i σ H' => H' p = some (.lst ((100 :: octM (es.take i)).map V.int)) ∧ Same H H' ∧ ∃ y1 y2 y3, σ = [some (.ref a), some (.ref p), y1, y2, y3]) ⟨g2, s2, none, none, none, rfl⟩ (fun i σ H' q => SqT.of (q.2.1 _ _ hb)) ?_ ?_⟩
    · rintro i x σ H' hx ⟨gp, s3, y1, y2, y3, rfl⟩
      obtain ⟨dd, hd, t2⟩ := tpAll_get hv hx
      rw [datM_map, List.getElem?_map] at hd
      cases he : es[i]? with
      | none => rw [he] at hd; cases hd
      | some en =>
      obtain ⟨kk, e⟩ := en
      rw [he] at hd
      cases hd
      have me := List.mem_of_getElem? he
      have le := octW_le he
      obtain ⟨c, zs, rfl, hc, re⟩ := tp_tup t2
      cases re with
      | cons q1 re =>
      cases re with
      | cons q2 re =>
      cases re
      obtain ⟨ck, rfl, hk⟩ := tp_kdB q1
      refine r_gtup (SqT.of (s3 _ _ hc)) rfl ?_
      walk_at "rf"
      refine ⟨tyL gp, ?_⟩
      walk_at "rf"
      refine ⟨_, rfl, ck, kk, rfl, s3 _ _ hk, kp _ me, fun q H4 nq g4 s4 => ?_⟩
      walk_at "rf"
      refine r_extC (s4 _ _ gp) g4 (by rw [List.length_cons]; omega) fun H5 g5 k5 => ?_
      have s5 := same_on (s3.trans s4) np k5
      walk_at "rf"
      refine ⟨tyL g5, ?_⟩
      walk_at "rf"
      refine ⟨_, rfl, e, m, Tp.tk (Same.tk s5) _ _ q2, gfM_mem gf _ me, fu.part me, by omega, by omega, fun q H6 nq6 g6 s6 => ?_⟩
      walk_at "rf"
      refine r_extC (s6 _ _ g5) g6 (by rw [List.length_append, List.length_cons]; omega) fun H7 g7 k7 => ?_
      refine ⟨?_, same_on (s5.trans s6) np k7, _, _, _, rfl⟩
      rw [octM_take he, ← List.append_assoc]
      exact g7
    · rintro σ H' ⟨gp, s3, y1, y2, y3, rfl⟩
      rw [hvl, List.take_length] at gp
      walk_at "rf"
      refine ⟨tyL gp, ?_⟩
      walk_at "rf"
      refine r_appE gp (by rw [List.length_map, List.length_cons]; exact Nat.lt_of_le_of_lt (show (octM es).length + 1 ≤ 16000000 by omega) (by decide)) fun H5 g5 k5 => ?_
      walk_at "rf"
      exact h p H5 np (by rw [g5]; show _ = some (HO.lst ((100 :: (octM es ++ [101])).map V.int)); rw [List.map_cons, List.map_cons, List.map_append]; rfl) (same_on s3 np fun c o n e => (k5.1 c n).trans e)
  | ls xs =>
    obtain ⟨m, rfl⟩ : ∃ q, m = q + 1 := by
      cases m with
      | zero => exact gf.elim
      | succ m => exact ⟨m, rfl⟩
    obtain ⟨hl, gf⟩ := gf
    obtain ⟨a, us, rfl, ha, hu⟩ := tp_tup t
    cases hu with
    | cons r1 r2 =>
    cases r1
    cases r2 with
    | cons r2 r3 =>
    cases r3
    obtain ⟨b, vs, rfl, hb, hv⟩ := tp_tup r2
    walk_at "rf"
    refine r_ixT (SqT.of ha) (atI_nat (j := 0) rfl) ?_
    walk_at "rf"
    refine ⟨by show 2 ≤ sizeLine; decide, fun q H1 n1 g1 s1 => ?_⟩
    refine ⟨q, _, rfl, .inr (SqT.of g1), rfl, rfl, ?_⟩
    rw [if_pos rfl, in_two, show (!(decide (("list" : Str) = "list") || decide (("list" : Str) = "map"))) = false by decide +kernel]
    walk_at "rf"
    refine r_ixT (SqT.of (s1 _ _ ha)) (atI_nat (j := 0) rfl) ?_
    walk_at "rf"
    rw [if_pos (show decide (("list" : Str) = "list") = true by decide +kernel)]
    walk_at "rf"
    refine ⟨by show 1 ≤ sizeLine; decide, fun p H2 np g2 s2 => ?_⟩
    have g2 : H2 p = some (.lst (([108] : List Int).map V.int)) := g2
    have s2 := s1.trans s2
    have np : H p = none := s1.free np
    walk_at "rf"
    refine r_ixT (SqT.of (s2 _ _ ha)) (atI_nat (j := 0) rfl) ?_
    walk_at "rf"
    refine r_itep (show ("list" : Str) = "list" from rfl) ?_
    walk_at "rf"
    refine r_ixT (SqT.of (s2 _ _ ha)) rfl ?_
    walk_at "rf"
    have hz : (108 :: (octL xs ++ [101])).length ≤ 16000000 := hz
    rw [List.length_cons, List.length_append] at hz
    have hvl : vs.length = xs.length := by rw [tpAll_len hv, datL_map, List.length_map]
    refine ⟨b, rfl, ⟨vs, SqT.of (s2 _ _ hb)⟩, r_eachT (xs := vs) (fun i σ H' => H' p = some (.lst ((108 :: octL (xs.take i)).map V.int)) ∧ Same H H' ∧ ∃ y1 y2 y3, σ = [some (.ref a), some (.ref p), y1, y2, y3]) ⟨g2, s2, none, none, none, rfl⟩ (fun i σ H' q => SqT.of (q.2.1 _ _ hb)) ?_ ?_⟩
    · rintro i x σ H' hx ⟨gp, s3, y1, y2, y3, rfl⟩
      obtain ⟨dd, hd, t2⟩ := tpAll_get hv hx
      rw [datL_map, List.getElem?_map] at hd
      cases he : xs[i]? with
      | none => rw [he] at hd; cases hd
      | some e =>
      rw [he] at hd
      cases hd
      have me := List.mem_of_getElem? he
      have le := octV_le he
      walk_at "rf"
      refine ⟨tyL gp, ?_⟩
      walk_at "rf"
      refine ⟨_, rfl, e, m, Tp.tk (Same.tk s3) _ _ t2, gfL_mem gf e me, fu.item me, by omega, by omega, fun q H4 nq g4 s4 => ?_⟩
      walk_at "rf"
      refine r_extC (s4 _ _ gp) g4 (by rw [List.length_cons]; omega) fun H5 g5 k5 => ?_
      refine ⟨?_, same_on (s3.trans s4) np k5, _, _, _, rfl⟩
      rw [octL_take he]
      exact g5
    · rintro σ H' ⟨gp, s3, y1, y2, y3, rfl⟩
      rw [hvl, List.take_length] at gp
      walk_at "rf"
      refine ⟨tyL gp, ?_⟩
      walk_at "rf"
      refine r_appE gp (by rw [List.length_map, List.length_cons]; exact Nat.lt_of_le_of_lt (show (octL xs).length + 1 ≤ 16000000 by omega) (by decide)) fun H5 g5 k5 => ?_
      walk_at "rf"
      exact h p H5 np (by rw [g5]; show _ = some (HO.lst ((108 :: (octL xs ++ [101])).map V.int)); rw [List.map_cons, List.map_cons, List.map_append]; rfl) (same_on s3 np fun c o n e => (k5.1 c n).trans e)
theorem rec__octets_of (F : FunD K "_octets_of" "_octets_of" (defArgs s__octets_of) (defBody s__octets_of) (defScope s__octets_of) [] [] (glAd "_octets_of" K) fd) (m : mg "_octets_of" = some (.ref (glAd "_octets_of" K))) (nb : Nm K mg) (c_leaf_octets : Cal P w K mg base 3 "leaf_octets" (sp_leaf_octets K) []) (c_key_octets : Cal P w K mg base 3 "key_octets" (sp_key_octets K) []) : ∀ n, Cal P w K mg base (4 + n) "_octets_of" (sp__octets_of K n) []
  | 0 => calD (k := 3) F m sc__octets_of (fun _ _ _ _ _ _ us hl => match us, hl with | [_], _ => rfl) (fun _ _ _ _ h => (no__octets_of h).elim) (fun _ _ _ _ _ _ _ _ _ h => (no__octets_of h).elim)
  | n + 1 => ok__octets_of n F m nb c_leaf_octets c_key_octets (rec__octets_of F m nb c_leaf_octets c_key_octets n)
theorem ok__law_ascii (F : FunD K "_law_ascii" "_law_ascii" (defArgs s__law_ascii) (defBody s__law_ascii) (defScope s__law_ascii) [] [] (glAd "_law_ascii" K) fd) (m : mg "_law_ascii" = some (.ref (glAd "_law_ascii" K))) (nb : Nm K mg) : Cal P w K mg base 1 "_law_ascii" (sp__law_ascii K) [] := by
  refine calD F m sc__law_ascii (fun _ _ _ _ _ _ us hl => match us, hl with | [_], _ => rfl) len1 (fun cdv A outer s H vs Q E hr h => ⟨_, (pss_one (ps_ret (pe_lc (own := [("char", 1)]) (g := gName 1) (tt := tYes) rfl sc__law_ascii.nd (pi_str (pv 0)) (blkOk_by (N := ["text", "char"]) (sc := defScope s__law_ascii) (by decide +kernel)) (fun _ _ _ _ _ => pg_name (i := 1) sc__law_ascii.nd rfl (Or.inl rfl)) (fun _ _ _ _ _ => pts_nil) (fun _ _ _ _ _ => (pe_callB call_ord (by rfl) nb.ord (by decide +kernel) (pa_cons (pv 1) pa_nil)))))), ?_⟩)
  obtain ⟨_, rfl, x, rfl, hx, h⟩ := h
  walk_at "rd"
  refine r_lcS (x := S x) rfl (fun D i H' => H' D = some (.lst ((asc (x.take i)).map V.int)) ∧ ∀ b u, b ≠ D → H b = some u → H' b = some u) (fun D hD => ⟨upd_same, fun b u n z => (upd_ne n).trans z⟩) ?_ ?_
  · rintro D i c H' hD hc ⟨g1, g2⟩
    walk_at "rd"
    refine ⟨rfl, ?_⟩
    walk_at "rd"
    have hx2 : x[i]? = some c := by
      have := hc
      rw [S_at] at this
      exact this
    refine ⟨_, rfl, rfl, _, g1, small_asc hx i, ?_, fun b u n z => (upd_ne n).trans (g2 b u n z)⟩
    rw [upd_same, List.take_succ, hx2]
    unfold asc
    rw [List.map_append, List.map_append]
    rfl
  · rintro D H' hD ⟨g1, g2⟩
    have e : x.take (S x).cps.size = x := List.take_of_length_le (Nat.le_of_eq (S_size x).symm)
    rw [e] at g1
    exact h D H' hD g1 fun b u z => g2 b u (fun e => by rw [e, hD] at z; cases z) z
theorem ok__law_utf8 (F : FunD K "_law_utf8" "_law_utf8" (defArgs s__law_utf8) (defBody s__law_utf8) (defScope s__law_utf8) [] [] (glAd "_law_utf8" K) fd) (m : mg "_law_utf8" = some (.ref (glAd "_law_utf8" K))) (nb : Nm K mg) : Cal P w K mg base 1 "_law_utf8" (sp__law_utf8 K) [] := by
  refine calD F m sc__law_utf8 (fun _ _ _ _ _ _ us hl => match us, hl with | [_], _ => rfl) len1 (fun cdv A outer s H vs Q E hr h => ⟨_, (pss_cons (ps_set (i := 1) sc__law_utf8.nd rfl (Or.inl rfl) (pe_lst pa_nil))
    (pss_cons (ps_for PassesOwn.never rfl (pi_tup (pv 0)) (pg_name (i := 2) sc__law_utf8.nd rfl (Or.inl rfl))
    (pss_one (ps_if (pt_cmpR op_lt (pv 2) pe_int (nomark _))
    (pss_one (ps_expr (pe_bm PySem.F.plainAttrs_list PySem.F.slot_list_append PySem.F.type_list_append mt_append (pv 1) (pa_cons (pv 2) pa_nil))))
    (pss_one (ps_if (pt_cmpR op_lt (pv 2) pe_int (nomark _))
    (pss_one (ps_set (i := 1) sc__law_utf8.nd rfl (Or.inl rfl) (pe_op op_cat (pv 1) (pe_lst (pa_cons (pe_op op_add pe_int (pe_op op_fdiv (pv 2) pe_int)) (pa_cons (pe_op op_add pe_int (pe_op op_mod (pe_callTy call_int1 (by rfl) nb.int (by decide +kernel) (pa_cons (pv 2) pa_nil)) pe_int)) pa_nil))))))
    (pss_one (ps_if (pt_cmpR op_lt (pv 2) pe_int (nomark _))
    (pss_one (ps_set (i := 1) sc__law_utf8.nd rfl (Or.inl rfl) (pe_op op_cat (pv 1) (pe_lst (pa_cons (pe_op op_add pe_int (pe_op op_fdiv (pv 2) pe_int)) (pa_cons (pe_op op_add pe_int (pe_op op_mod (pe_callTy call_int1 (by rfl) nb.int (by decide +kernel) (pa_cons (pe_op op_fdiv (pv 2) pe_int) pa_nil)) pe_int)) (pa_cons (pe_op op_add pe_int (pe_op op_mod (pe_callTy call_int1 (by rfl) nb.int (by decide +kernel) (pa_cons (pv 2) pa_nil)) pe_int)) pa_nil)))))))
    (pss_one (ps_set (i := 1) sc__law_utf8.nd rfl (Or.inl rfl) (pe_op op_cat (pv 1) (pe_lst (pa_cons (pe_op op_add pe_int (pe_op op_fdiv (pv 2) pe_int)) (pa_cons (pe_op op_add pe_int (pe_op op_mod (pe_callTy call_int1 (by rfl) nb.int (by decide +kernel) (pa_cons (pe_op op_fdiv (pv 2) pe_int) pa_nil)) pe_int)) (pa_cons (pe_op op_add pe_int (pe_op op_mod (pe_callTy call_int1 (by rfl) nb.int (by decide +kernel) (pa_cons (pe_op op_fdiv (pv 2) pe_int) pa_nil)) pe_int)) (pa_cons (pe_op op_add pe_int (pe_op op_mod (pe_callTy call_int1 (by rfl) nb.int (by decide +kernel) (pa_cons (pv 2) pa_nil)) pe_int)) pa_nil)))))))))))))))
    (pss_one (ps_ret (pv 1))))), ?_⟩)
  obtain ⟨_, rfl, a, ps, rfl, ha, hp, h⟩ := h
  walk_at "rd"
  refine ⟨Nat.zero_le _, fun q nq => ?_⟩
  obtain ⟨H1, e, s1, g1⟩ := new_o (o := .lst []) nq
  rw [e]
  clear e
  walk_at "rd"
  refine ⟨a, rfl, ⟨_, SqT.of (s1 _ _ ha)⟩, ?_⟩
  refine r_eachT (xs := ps.map V.int) (fun i σ H' => Same H H' ∧ ∃ (q : Addr) (y : Option V), H q = none ∧ H' q = some (.lst ((encs (ps.take i)).map V.int)) ∧ σ = [some (.ref a), some (.ref q), y]) ⟨s1, q, none, nq, g1, rfl⟩ (fun i σ H' p => SqT.of (p.1 _ _ ha)) ?_ ?_
  · rintro i x σ H2 hx ⟨s2, q, y, nq, g2, rfl⟩
    obtain ⟨c, hc, rfl, et⟩ := ints_get hx
    have hi : i < ps.length := (List.getElem?_eq_some_iff.mp hc).1
    have hl : (encs (ps.take i)).length ≤ 800 := by
      have h1 := len_encs (ps.take i)
      have h2 : (ps.take i).length ≤ ps.length := List.length_take_le' _ _
      have h3 := hp
      omega
    have step : ∀ r : List Int, enc1 c = r → ∀ (q2 : Addr) (H3 : Hp), H2 q2 = none → H3 q2 = some (.lst ((encs (ps.take i) ++ r).map V.int)) → Same H2 H3 → Same H H3 ∧ ∃ (q : Addr) (y : Option V), H q = none ∧ H3 q = some (.lst ((encs (ps.take (i + 1))).map V.int)) ∧ [some (V.ref a), some (.ref q2), some (.int c)] = [some (.ref a), some (.ref q), y] := fun r er q2 H3 n2 g3 s3 => ⟨s2.trans s3, q2, _, s2.free n2, by rw [g3, et]; rw [encs_snoc, er], rfl⟩
    walk_at "rd"
    refine r_ite (fun c1 => ?_) (fun c1 => ?_)
    · walk_at "rd"
      refine ⟨tyL g2, ?_⟩
      walk_at "rd"
      refine r_appK g2 (small4k (by rw [List.length_map]; omega)) fun H5 hL5 f5 => ?_
      refine ⟨same_but s2 nq f5, q, _, nq, ?_, rfl⟩
      rw [hL5, map_snoc, et]
      rw [encs_snoc, enc_low c1]
    walk_at "rd"
    refine r_ite (fun c2 => ?_) (fun c2 => ?_)
    · have er : enc1 c = [192 + c / 64, 128 + c % 64] := (if_neg c1).trans (if_pos c2)
      walk_at "rd"
      refine ⟨by show 2 ≤ sizeLine; decide, fun q2 n2 => ?_⟩
      obtain ⟨H3, e, s3, g3⟩ := new_o (o := .lst ([192 + c / 64, 128 + c % 64].map V.int)) n2
      rw [show (HO.lst [V.int (192 + c / 64), V.int (128 + c % 64)]) = .lst ([192 + c / 64, 128 + c % 64].map V.int) from rfl, e]
      clear e
      walk_at "rd"
      refine r_catB (s3 _ _ g2) g3 (by show _ + 2 ≤ _; omega) fun p3 H4 n4 g4 s4 => ?_
      exact step _ er p3 H4 (s3.free n4) g4 (s3.trans s4)
    walk_at "rd"
    refine r_ite (fun c3 => ?_) (fun c3 => ?_)
    · have er : enc1 c = [224 + c / 4096, 128 + c / 64 % 64, 128 + c % 64] := (if_neg c1).trans ((if_neg c2).trans (if_pos c3))
      walk_at "rd"
      refine ⟨by show 3 ≤ sizeLine; decide, fun q2 n2 => ?_⟩
      obtain ⟨H3, e, s3, g3⟩ := new_o (o := .lst ([224 + c / 4096, 128 + c / 64 % 64, 128 + c % 64].map V.int)) n2
      rw [show (HO.lst [V.int (224 + c / 4096), V.int (128 + c / 64 % 64), V.int (128 + c % 64)]) = .lst ([224 + c / 4096, 128 + c / 64 % 64, 128 + c % 64].map V.int) from rfl, e]
      clear e
      walk_at "rd"
      refine r_catB (s3 _ _ g2) g3 (by show _ + 3 ≤ _; omega) fun p3 H4 n4 g4 s4 => ?_
      exact step _ er p3 H4 (s3.free n4) g4 (s3.trans s4)
    · have er : enc1 c = [240 + c / 262144, 128 + c / 4096 % 64, 128 + c / 64 % 64, 128 + c % 64] := (if_neg c1).trans ((if_neg c2).trans (if_neg c3))
      walk_at "rd"
      refine ⟨by show 4 ≤ sizeLine; decide, fun q2 n2 => ?_⟩
      obtain ⟨H3, e, s3, g3⟩ := new_o (o := .lst ([240 + c / 262144, 128 + c / 4096 % 64, 128 + c / 64 % 64, 128 + c % 64].map V.int)) n2
      rw [show (HO.lst [V.int (240 + c / 262144), V.int (128 + c / 4096 % 64), V.int (128 + c / 64 % 64), V.int (128 + c % 64)]) = .lst ([240 + c / 262144, 128 + c / 4096 % 64, 128 + c / 64 % 64, 128 + c % 64].map V.int) from rfl, e]
      clear e
      walk_at "rd"
      refine r_catB (s3 _ _ g2) g3 (by show _ + 4 ≤ _; omega) fun p3 H4 n4 g4 s4 => ?_
      exact step _ er p3 H4 (s3.free n4) g4 (s3.trans s4)
  · rintro σ H2 ⟨s2, q, y, nq, g2, rfl⟩
    rw [List.length_map, List.take_length] at g2
    walk_at "rd"
    exact h q H2 nq g2 s2
theorem ok__law_string (F : FunD K "_law_string" "_law_string" (defArgs s__law_string) (defBody s__law_string) (defScope s__law_string) [] [] (glAd "_law_string" K) fd) (m : mg "_law_string" = some (.ref (glAd "_law_string" K))) (nb : Nm K mg) (c__law_ascii : Cal P w K mg base 1 "_law_ascii" (sp__law_ascii K) []) : Cal P w K mg base 2 "_law_string" (sp__law_string K) [] := by
  refine calD F m sc__law_string (fun _ _ _ _ _ _ us hl => match us, hl with | [_], _ => rfl) len1 (fun cdv A outer s H vs Q E hr h => ⟨_, (pss_one (ps_ret (pe_op op_cat (pe_op op_cat (pe_c c__law_ascii hr (by decide) rfl (pa_cons (pe_callTy (call_strW rfl nb.dig) (by rfl) nb.str (by decide +kernel) (pa_cons (pe_callB call_len_seq (by rfl) nb.len PySem.boot_len (pa_cons (pv 0) pa_nil)) pa_nil)) pa_nil)) (pe_lstE (pa_cons pe_int pa_nil))) (pe_callTy call_list_ofE (by rfl) nb.list (by decide +kernel) (pa_cons (pv 0) pa_nil))))), ?_⟩)
  obtain ⟨_, rfl, p, os, rfl, hp, hl, h⟩ := h
  walk_at "rf"
  refine ⟨p, _, rfl, hp, ?_⟩
  rw [List.length_map]
  walk_at "rf"
  refine ⟨Nat.lt_of_le_of_lt hl (Nat.lt_of_lt_of_le (by decide : 4000 < 10 ^ 4) (Nat.pow_le_pow_right (by decide) (by decide))), ?_⟩
  rw [str_dg]
  walk_at "rf"
  have dl : (dg os.length).length ≤ 5 := dg_lenP (Nat.lt_of_le_of_lt hl (by decide : 4000 < 10 ^ 4))
  refine ⟨_, rfl, dg os.length, rfl, by omega, fun q1 H1 n1 g1 s1 => ?_⟩
  walk_at "rf"
  refine ⟨by show 1 ≤ sizeLine; decide, fun q2 H2 n2 g2 s2 => ?_⟩
  have g2 : H2 q2 = some (.lst (([58] : List Int).map V.int)) := g2
  walk_at "rf"
  refine r_catB (s2 _ _ g1) g2 (by rw [asc_len]; show _ + 1 ≤ _; omega) fun q3 H3 n3 g3 s3 => ?_
  walk_at "rf"
  have s13 := (s1.trans s2).trans s3
  refine ⟨p, _, rfl, same_seq s13 hp, fun q4 H4 n4 g4 s4 => ?_⟩
  refine r_catB (s4 _ _ g3) g4 (by rw [List.length_append, asc_len]; show _ + 1 + _ ≤ _; omega) fun q5 H5 n5 g5 s5 => ?_
  exact h q5 H5 ((s13.trans s4).free n5) g5 ((s13.trans s4).trans s5)
theorem ok__law_leaf_written (F : FunD K "_law_leaf_written" "_law_leaf_written" (defArgs s__law_leaf_written) (defBody s__law_leaf_written) (defScope s__law_leaf_written) [] [] (glAd "_law_leaf_written" K) fd) (m : mg "_law_leaf_written" = some (.ref (glAd "_law_leaf_written" K))) (nb : Nm K mg) (c__law_ascii : Cal P w K mg base 1 "_law_ascii" (sp__law_ascii K) []) (c__law_string : Cal P w K mg base 2 "_law_string" (sp__law_string K) []) : Cal P w K mg base 3 "_law_leaf_written" (sp__law_leaf_written K) [] := by
  refine calD F m sc__law_leaf_written (fun _ _ _ _ _ _ us hl => match us, hl with | [_], _ => rfl) len1 (fun cdv A outer s H vs Q E hr h => ⟨_, (pss_cons (ps_if (pt_cmpR op_eq (pe_ix ix_tup (pv 0) pe_int (fun _ _ => rfl)) pe_str (nomark _))
    (pss_one (ps_ret (pe_op op_cat (pe_op op_cat (pe_lstE (pa_cons pe_int pa_nil)) (pe_c c__law_ascii hr (by decide) rfl (pa_cons (pe_op op_add_str (pe_callTy (call_strW rfl nb.dig) (by rfl) nb.str (by decide +kernel) (pa_cons (pe_ix ix_tup (pv 0) pe_int (fun _ _ => rfl)) pa_nil)) (pe_op op_repS pe_str (pe_ix ix_tup (pv 0) pe_int (fun _ _ => rfl)))) pa_nil))) (pe_lstE (pa_cons pe_int pa_nil)))))
    pss_nil)
    (pss_one (ps_ret (pe_c c__law_string hr (by decide) rfl (pa_cons (pe_ix ix_tup (pv 0) pe_int (fun _ _ => rfl)) pa_nil))))), ?_⟩)
  obtain ⟨_, rfl, k, r, tp, lb, h⟩ := h
  obtain ⟨a, xs, rfl, ha, hx⟩ := tp_tup tp
  cases lb with
  | number m e nf hm =>
    cases hx with
    | cons h1 h2 =>
    cases h1
    cases h2 with
    | cons h1 h2 =>
    cases h1
    cases h2 with
    | cons h1 h2 =>
    cases h1
    cases h2
    have he : 0 ≤ e ∧ e ≤ 800 := by
      rcases nf with ⟨_, q⟩ | q
      · omega
      · exact q.2
    walk_at "rf"
    refine r_ixT (SqT.of ha) (atI_nat (j := 0) rfl) ?_
    walk_at "rf"
    refine r_ite (fun _ => ?_) (fun c => absurd rfl c)
    walk_at "rf"
    refine ⟨by show 1 ≤ sizeLine; decide, fun q1 H1 n1 g1 s1 => ?_⟩
    have g1 : H1 q1 = some (.lst (([105] : List Int).map V.int)) := g1
    walk_at "rf"
    refine r_ixT (SqT.of (s1 _ _ ha)) (atI_nat (j := 1) rfl) ?_
    walk_at "rf"
    have hl := sdg_len hm
    refine ⟨Nat.lt_trans hm (Nat.pow_lt_pow_right (by decide) (by decide)), ?_⟩
    rw [str_sdg]
    walk_at "rf"
    refine r_ixT (SqT.of (s1 _ _ ha)) (atI_nat (j := 2) rfl) ?_
    refine r_rep (c := 48) (show ("0" : Str) = S [48] by decide +kernel) (by omega) (by omega) ?_
    refine r_add rfl rfl (by rw [List.length_replicate]; omega) ?_
    rw [S_cat]
    walk_at "rf"
    have zl : (sdg m ++ List.replicate e.toNat 48).length ≤ 900 := by rw [List.length_append, List.length_replicate]; omega
    refine ⟨_, rfl, _, rfl, Nat.le_trans zl (by decide), fun q2 H2 n2 g2 s2 => ?_⟩
    refine r_catB (s2 _ _ g1) g2 (by rw [asc_len]; show 1 + _ ≤ _; omega) fun q3 H3 n3 g3 s3 => ?_
    walk_at "rf"
    refine ⟨by show 1 ≤ sizeLine; decide, fun q4 H4 n4 g4 s4 => ?_⟩
    have g4 : H4 q4 = some (.lst (([101] : List Int).map V.int)) := g4
    walk_at "rf"
    refine r_catB (s4 _ _ g3) g4 (by rw [List.length_append, asc_len]; show 1 + _ + 1 ≤ _; omega) fun q5 H5 n5 g5 s5 => ?_
    have s15 := (((s1.trans s2).trans s3).trans s4)
    have eo : [105] ++ asc (sdg m ++ List.replicate e.toNat 48) ++ [101] = numO m e := rfl
    rw [eo] at g5
    exact h q5 H5 (s15.free n5) g5 (s15.trans s5)
  | bytes os hl =>
    cases hx with
    | cons h1 h2 =>
    cases h1
    cases h2 with
    | cons h1 h2 =>
    cases h2
    obtain ⟨b, rfl, hb⟩ := tp_kdB h1
    walk_at "rf"
    refine r_ixT (SqT.of ha) (atI_nat (j := 0) rfl) ?_
    walk_at "rf"
    refine r_iteN (show ¬ ("bytes" : Str) = "number" by decide +kernel) ?_
    walk_at "rf"
    refine r_ixT (SqT.of ha) (atI_nat (j := 1) rfl) ?_
    walk_at "rf"
    refine ⟨_, rfl, b, os, rfl, .inr (SqT.of hb), by omega, fun q5 H5 n5 g5 s5 => ?_⟩
    rw [lfO_bytes] at h
    exact h q5 H5 n5 g5 s5
theorem ok__law_written (n : Nat) (F : FunD K "_law_written" "_law_written" (defArgs s__law_written) (defBody s__law_written) (defScope s__law_written) [] [] (glAd "_law_written" K) fd) (m : mg "_law_written" = some (.ref (glAd "_law_written" K))) (nb : Nm K mg) (c__law_utf8 : Cal P w K mg base 1 "_law_utf8" (sp__law_utf8 K) []) (c__law_string : Cal P w K mg base 2 "_law_string" (sp__law_string K) []) (c__law_leaf_written : Cal P w K mg base 3 "_law_leaf_written" (sp__law_leaf_written K) []) (c__law_written : Cal P w K mg base (4 + n) "_law_written" (sp__law_written K n) []) : Cal P w K mg base (4 + n + 1) "_law_written" (sp__law_written K (n + 1)) [] := by
  refine calD F m sc__law_written (fun _ _ _ _ _ _ us hl => match us, hl with | [_], _ => rfl) len1 (fun cdv A outer s H vs Q E hr h => ⟨_, (pss_cons (ps_if (pt_cmpR op_eq (pe_ix ix_tup (pv 0) pe_int (fun _ _ => rfl)) pe_str (nomark _))
    (pss_cons (ps_set (i := 1) sc__law_written.nd rfl (Or.inl rfl) (pe_lstE (pa_cons pe_int pa_nil)))
    (pss_cons (ps_for PassesOwn.never rfl (pi_tup (pe_ix ix_tup (pv 0) pe_int (fun _ _ => rfl))) (pg_name (i := 2) sc__law_written.nd rfl (Or.inl rfl))
    (pss_one (ps_set (i := 1) sc__law_written.nd rfl (Or.inl rfl) (pe_op op_cat (pv 1) (pe_c c__law_written hr (by omega) rfl (pa_cons (pv 2) pa_nil))))))
    (pss_one (ps_ret (pe_op op_cat (pv 1) (pe_lstE (pa_cons pe_int pa_nil)))))))
    pss_nil)
    (pss_cons (ps_if (pt_cmpR op_eq (pe_ix ix_tup (pv 0) pe_int (fun _ _ => rfl)) pe_str (nomark _))
    (pss_cons (ps_set (i := 1) sc__law_written.nd rfl (Or.inl rfl) (pe_lstE (pa_cons pe_int pa_nil)))
    (pss_cons (ps_setLc (i := 3) (own := [("entry", 5)]) (g := gName 5) (tt := tYes) rfl sc__law_written.nd rfl rfl (sw_true rfl rfl rfl (by decide +kernel)) (pi_tup (pe_ix ix_tup (pv 0) pe_int (fun _ _ => rfl))) (blkOk_by (N := ["value", "found", "item", "keyed", "octets", "entry"]) (sc := defScope s__law_written) (by decide +kernel)) (fun _ _ _ _ _ => pg_name (i := 5) sc__law_written.nd rfl (Or.inl rfl)) (fun _ _ _ _ _ => pts_nil) (fun _ _ _ _ _ => (pe_tupE (pa_cons (pe_c c__law_utf8 hr (by omega) rfl (pa_cons (pe_ix (show IxR _ (rIx K) from ix_seq) (pv 5) pe_int (fun _ _ => rfl)) pa_nil)) (pa_cons (pe_c c__law_written hr (by omega) rfl (pa_cons (pe_ix (show IxR _ (rIx K) from ix_seq) (pv 5) pe_int (fun _ _ => rfl)) pa_nil)) pa_nil)))))
    (pss_cons (ps_for PassesOwn.never rfl (pi_list (pe_callB (cr_sortedS hr.units) (by rfl) nb.sorted (by decide +kernel) (pa_cons (pv 3) pa_nil))) (pg_tup rfl (pgs_cons (pg_name (i := 4) sc__law_written.nd rfl (Or.inl rfl)) (pgs_cons (pg_name (i := 2) sc__law_written.nd rfl (Or.inl rfl)) pgs_nil)))
    (pss_one (ps_set (i := 1) sc__law_written.nd rfl (Or.inl rfl) (pe_op op_cat (pe_op op_cat (pv 1) (pe_c c__law_string hr (by omega) rfl (pa_cons (pv 4) pa_nil))) (pv 2)))))
    (pss_one (ps_ret (pe_op op_cat (pv 1) (pe_lstE (pa_cons pe_int pa_nil))))))))
    pss_nil)
    (pss_one (ps_ret (pe_c c__law_leaf_written hr (by omega) rfl (pa_cons (pv 0) pa_nil)))))), ?_⟩)
  obtain ⟨_, rfl, d, m, t, gf, fu, hm, hz, h⟩ := h
  -- 0:value 1:found 2:item 3:keyed 4:octets 5:entry
  cases d with
  | lf k r =>
    have lb := Full.leaf gf fu
    obtain ⟨a, us, rfl, ha, hu⟩ := tp_tup t
    cases hu with
    | cons r1 r2 =>
    cases r1
    have hk : k ≠ "list" ∧ k ≠ "map" := by
      cases lb <;> exact ⟨by decide +kernel, by decide +kernel⟩
    walk_at "rf"
    refine r_ixT (SqT.of ha) (atI_nat (j := 0) rfl) ?_
    walk_at "rf"
    refine r_iteN hk.1 ?_
    walk_at "rf"
    refine r_ixT (SqT.of ha) (atI_nat (j := 0) rfl) ?_
    walk_at "rf"
    refine r_iteN hk.2 ?_
    walk_at "rf"
    exact ⟨_, rfl, k, r, t, lb, h⟩
  | mp es =>
    obtain ⟨m, rfl⟩ : ∃ q, m = q + 1 := by
      cases m with
      | zero => exact gf.elim
      | succ m => exact ⟨m, rfl⟩
    obtain ⟨hl, ko, kp, gf⟩ := gf
    obtain ⟨a, us, rfl, ha, hu⟩ := tp_tup t
    cases hu with
    | cons r1 r2 =>
    cases r1
    cases r2 with
    | cons r2 r3 =>
    cases r3
    obtain ⟨b, vs, rfl, hb, hv⟩ := tp_tup r2
    walk_at "rf"
    refine r_ixT (SqT.of ha) (atI_nat (j := 0) rfl) ?_
    walk_at "rf"
    refine r_iteN (show ¬ ("map" : Str) = "list" by decide +kernel) ?_
    walk_at "rf"
    refine r_ixT (SqT.of ha) (atI_nat (j := 0) rfl) ?_
    walk_at "rf"
    refine r_itep (show ("map" : Str) = "map" from rfl) ?_
    walk_at "rf"
    refine ⟨by show 1 ≤ sizeLine; decide, fun p H2 np g2 s2 => ?_⟩
    have g2 : H2 p = some (.lst (([100] : List Int).map V.int)) := g2
    walk_at "rf"
    refine r_ixT (SqT.of (s2 _ _ ha)) rfl ?_
    have hz : (100 :: (octM es ++ [101])).length ≤ 16000000 := hz
    rw [List.length_cons, List.length_append] at hz
    have hvl : vs.length = es.length := by rw [tpAll_len hv, datM_map, List.length_map]
    refine ⟨b, rfl, ⟨vs, SqT.of (s2 _ _ hb)⟩, fun D nD => ?_⟩
    refine lc_tup (xs := vs) (fun i H' => ∃ ws, Same H2 H' ∧ H' D = some (.lst ws) ∧ Paired (KyAt D H') ws (es.take i)) ⟨[], same_upd nD _, upd_same, .nil⟩ (fun i H' _ q => by obtain ⟨_, q1, _⟩ := q; exact SqT.of (q1 _ _ (s2 _ _ hb))) ?_ ?_
    · rintro i x H' hx ⟨ws, s1, hD, kw⟩
      obtain ⟨dd, hd, t2⟩ := tpAll_get hv hx
      rw [datM_map, List.getElem?_map] at hd
      cases he : es[i]? with
      | none => rw [he] at hd; cases hd
      | some en =>
      obtain ⟨kk, e⟩ := en
      rw [he] at hd
      cases hd
      have me := List.mem_of_getElem? he
      have le := octW_le he
      obtain ⟨c, zs, rfl, hc, re⟩ := tp_tup t2
      cases re with
      | cons q1 re =>
      cases re with
      | cons q2 re =>
      cases re
      obtain ⟨ck, rfl, hk⟩ := tp_kdB q1
      walk_at "rf"
      refine ⟨rfl, ?_⟩
      walk_at "rf"
      refine .inr (.inl (r_ixT (SqT.of ((s2.trans s1) _ _ hc)) (atI_nat (j := 0) rfl) ?_))
      walk_at "rf"
      refine ⟨_, rfl, ck, kk, rfl, (s2.trans s1) _ _ hk, (kp _ me).1, fun q1 H4 n4 g4 s4 => ?_⟩
      have s14 := s1.trans s4
      walk_at "rf"
      refine .inr (.inl (r_ixT (SqT.of ((s2.trans s14) _ _ hc)) (atI_nat (j := 1) rfl) ?_))
      walk_at "rf"
      refine ⟨_, rfl, e, m, Tp.tk (Same.tk (s2.trans s14)) _ _ q2, gfM_mem gf _ me, fu.part me, by omega, by omega, fun q2 H5 n5 g5 s5 => ?_⟩
      walk_at "rf"
      refine ⟨by show 2 ≤ sizeLine; decide, fun q3 H6 n6 g6 s6 => ?_⟩
      have wl := Paired.length kw
      rw [List.length_take] at wl
      have s46 := s4.trans (s5.trans s6)
      refine ⟨ws, s46 _ _ hD, Nat.lt_of_le_of_lt (show ws.length ≤ 100 by omega) (by decide), ws ++ [.ref q3], same_on (s1.trans s46) nD fun b o n => (upd_ne n).trans, upd_same, ?_⟩
      rw [List.take_add_one, he]
      have g6D := s46 _ _ hD
      refine paired_app (paired_imp (fun v en z => KyAt.put g6D (KyAt.same s46 z)) kw) (.cons (KyAt.put g6D ⟨q3, q1, q2, rfl, g6, s6 _ _ (s5 _ _ g4), s6 _ _ g5, fun z => ?_, fun z => ?_⟩) .nil)
      · rw [z, hD] at n4
        cases n4
      · rw [z, s4 _ _ hD] at n5
        cases n5
    · rintro H3 ⟨ws, s3, gD, kw⟩
      have hws := Paired.length kw
      rw [hvl, List.take_length] at hws kw
      have s03 := s2.trans s3
      walk_at "rf"
      refine ⟨D, ws, es.map fun e => keyD (encs e.1) (octV e.2), rfl, SqL.of gD, ky_dp kw, PySem.W.AllAlike.of fun _ _ => keyD_alike _ _ _ _, PySem.W.Sortable.tuples fun e => ⟨_, _, rfl⟩, fun d hd => ?_, ?_, fun pS nS => ?_⟩
      · obtain ⟨e, _, rfl⟩ := List.mem_map.mp hd
        exact keyD_depth _ _
      · rw [List.pairwise_map]
        rw [List.pairwise_map] at ko
        exact ko.imp_of_mem fun hx hy z => keyD_le _ _ (encs_lt (kp _ hx).2 (kp _ hy).2 z)
      obtain ⟨H4, e4, s4, g4⟩ := new_o (o := HO.lst ws) nS
      rw [e4]
      clear e4
      have s04 := s03.trans s4
      have hD : D ≠ pS := fun z => by rw [z, nS] at gD; cases gD
      refine ⟨pS, rfl, ⟨ws, SqL.of g4⟩, r_eachL (xs := ws) (fun i σ H' => Same H4 H' ∧ ∃ p y y3 y4 y5, H' p = some (.lst ((100 :: octM (es.take i)).map V.int)) ∧ H p = none ∧ σ = [some (.ref a), some (.ref p), y, y3, y4, y5]) ⟨Same.refl H4, p, _, _, _, _, s4 _ _ (s3 _ _ g2), np, rfl⟩ (fun i σ H' q => SqL.of (q.1 _ _ g4)) ?_ ?_⟩
      · rintro i x σ H' hx ⟨s5, p, y, y3, y4, y5, gp, np, rfl⟩
        obtain ⟨en, he, kx⟩ := paired_get kw hx
        obtain ⟨kk, e⟩ := en
        obtain ⟨c, q1, q2, rfl, h1, h2, h3, _⟩ := kx.same (s4.trans s5)
        have h3 : H' q2 = some (.lst ((octV e).map V.int)) := h3
        have me := List.mem_of_getElem? he
        have le := octW_le he
        refine r_gtup (SqT.of h1) rfl ?_
        walk_at "rf"
        refine ⟨_, rfl, q1, encs kk, rfl, .inl (SqL.of h2), by have := len_encs kk; have k2 : kk.length ≤ 200 := (kp _ me).1; omega, fun q6 H6 n6 g6 s6 => ?_⟩
        walk_at "rf"
        refine r_catB (s6 _ _ gp) g6 (by rw [List.length_cons]; omega) fun q7 H7 n7 g7 s7 => ?_
        walk_at "rf"
        have s67 := s6.trans s7
        refine r_catB g7 (s67 _ _ h3) (by rw [List.length_append, List.length_cons]; omega) fun q8 H8 n8 g8 s8 => ?_
        walk_at "rf"
        have s0 := (s04.trans s5).trans s67
        refine ⟨s5.trans (s67.trans s8), q8, _, _, _, _, ?_, s0.free n8, rfl⟩
        rw [octM_take he, ← List.append_assoc]
        exact g8
      · rintro σ H' ⟨s5, p, y, y3, y4, y5, gp, np, rfl⟩
        rw [hws, List.take_length] at gp
        have s0 := s04.trans s5
        walk_at "rf"
        refine ⟨by show 1 ≤ sizeLine; decide, fun q6 H6 n6 g6 s6 => ?_⟩
        have g6 : H6 q6 = some (.lst (([101] : List Int).map V.int)) := g6
        walk_at "rf"
        refine r_catB (s6 _ _ gp) g6 (by rw [List.length_cons]; show _ + 1 + 1 ≤ _; omega) fun q7 H7 n7 g7 s7 => ?_
        exact h q7 H7 ((s0.trans s6).free n7) g7 ((s0.trans s6).trans s7)
  | ls xs =>
    obtain ⟨m, rfl⟩ : ∃ q, m = q + 1 := by
      cases m with
      | zero => exact gf.elim
      | succ m => exact ⟨m, rfl⟩
    obtain ⟨hl, gf⟩ := gf
    obtain ⟨a, us, rfl, ha, hu⟩ := tp_tup t
    cases hu with
    | cons r1 r2 =>
    cases r1
    cases r2 with
    | cons r2 r3 =>
    cases r3
    obtain ⟨b, vs, rfl, hb, hv⟩ := tp_tup r2
    walk_at "rf"
    refine r_ixT (SqT.of ha) rfl ?_
    walk_at "rf"
    refine r_itep (show ("list" : Str) = "list" from rfl) ?_
    walk_at "rf"
    refine ⟨by show 1 ≤ sizeLine; decide, fun p H2 np g2 s2 => ?_⟩
    have g2 : H2 p = some (.lst (([108] : List Int).map V.int)) := g2
    walk_at "rf"
    refine r_ixT (SqT.of (s2 _ _ ha)) rfl ?_
    walk_at "rf"
    have hz : (108 :: (octL xs ++ [101])).length ≤ 16000000 := hz
    rw [List.length_cons, List.length_append] at hz
    have hvl : vs.length = xs.length := by rw [tpAll_len hv, datL_map, List.length_map]
    refine ⟨b, rfl, ⟨vs, SqT.of (s2 _ _ hb)⟩, r_eachT (xs := vs) (fun i σ H' => Same H H' ∧ ∃ p y y3 y4 y5, H' p = some (.lst ((108 :: octL (xs.take i)).map V.int)) ∧ H p = none ∧ σ = [some (.ref a), some (.ref p), y, y3, y4, y5]) ⟨s2, p, none, none, none, none, g2, np, rfl⟩ (fun i σ H' q => SqT.of (q.1 _ _ hb)) ?_ ?_⟩
    · rintro i x σ H' hx ⟨s3, p, y, y3, y4, y5, gp, np, rfl⟩
      obtain ⟨dd, hd, t2⟩ := tpAll_get hv hx
      rw [datL_map, List.getElem?_map] at hd
      cases he : xs[i]? with
      | none => rw [he] at hd; cases hd
      | some e =>
      rw [he] at hd
      cases hd
      have me := List.mem_of_getElem? he
      have le := octV_le he
      walk_at "rf"
      refine ⟨_, rfl, e, m, Tp.tk (Same.tk s3) _ _ t2, gfL_mem gf e me, fu.item me, by omega, by omega, fun q H4 nq g4 s4 => ?_⟩
      walk_at "rf"
      refine r_catB (s4 _ _ gp) g4 (by rw [List.length_cons]; omega) fun q5 H5 n5 g5 s5 => ?_
      walk_at "rf"
      refine ⟨s3.trans (s4.trans s5), q5, _, _, _, _, ?_, (s3.trans s4).free n5, rfl⟩
      rw [octL_take he]
      exact g5
    · rintro σ H' ⟨s3, p, y, y3, y4, y5, gp, np, rfl⟩
      rw [hvl, List.take_length] at gp
      walk_at "rf"
      refine ⟨by show 1 ≤ sizeLine; decide, fun q4 H4 n4 g4 s4 => ?_⟩
      have g4 : H4 q4 = some (.lst (([101] : List Int).map V.int)) := g4
      walk_at "rf"
      refine r_catB (s4 _ _ gp) g4 (by rw [List.length_cons]; show _ + 1 + 1 ≤ _; omega) fun q5 H5 n5 g5 s5 => ?_
      exact h q5 H5 ((s3.trans s4).free n5) g5 ((s3.trans s4).trans s5)
theorem rec__law_written (F : FunD K "_law_written" "_law_written" (defArgs s__law_written) (defBody s__law_written) (defScope s__law_written) [] [] (glAd "_law_written" K) fd) (m : mg "_law_written" = some (.ref (glAd "_law_written" K))) (nb : Nm K mg) (c__law_utf8 : Cal P w K mg base 1 "_law_utf8" (sp__law_utf8 K) []) (c__law_string : Cal P w K mg base 2 "_law_string" (sp__law_string K) []) (c__law_leaf_written : Cal P w K mg base 3 "_law_leaf_written" (sp__law_leaf_written K) []) : ∀ n, Cal P w K mg base (4 + n) "_law_written" (sp__law_written K n) []
  | 0 => calD (k := 3) F m sc__law_written (fun _ _ _ _ _ _ us hl => match us, hl with | [_], _ => rfl) (fun _ _ _ _ h => (no__law_written h).elim) (fun _ _ _ _ _ _ _ _ _ h => (no__law_written h).elim)
  | n + 1 => ok__law_written n F m nb c__law_utf8 c__law_string c__law_leaf_written (rec__law_written F m nb c__law_utf8 c__law_string c__law_leaf_written n)
end

/-! ### the law's own walk; the writer and what it tells -/





mutual
/-- how deep a value is at most -/
def Vl.lv : Nat → Vl → Prop
  | _, .lf _ _ => True
  | 0, .ls _ => False
  | n + 1, .ls xs => lvL n xs
  | 0, .mp _ => False
  | n + 1, .mp es => lvM n es
def lvL : Nat → List Vl → Prop
  | _, [] => True
  | n, x :: xs => x.lv n ∧ lvL n xs
def lvM : Nat → List (List Int × Vl) → Prop
  | _, [] => True
  | n, (_, v) :: es => v.lv n ∧ lvM n es
end
theorem lvL_mem : ∀ {n : Nat} {xs : List Vl}, lvL n xs → ∀ x ∈ xs, x.lv n
  | _, [], _, x, h => absurd h (by simp)
  | _, y :: ys, h, x, hx => by
    rcases List.mem_cons.mp hx with e | e
    · rw [e]
      exact h.1
    · exact lvL_mem h.2 x e
theorem lvM_mem : ∀ {n : Nat} {es : List (List Int × Vl)}, lvM n es → ∀ e ∈ es, e.2.lv n
  | _, [], _, x, h => absurd h (by simp)
  | _, (k, v) :: ys, h, x, hx => by
    rcases List.mem_cons.mp hx with e | e
    · rw [e]
      exact h.1
    · exact lvM_mem h.2 x e
theorem preL_app : ∀ xs ys : List Vl, preL (xs ++ ys) = preL xs ++ preL ys
  | [], _ => rfl
  | x :: xs, ys => by
    show preV x ++ preL (xs ++ ys) = preV x ++ preL xs ++ preL ys
    rw [preL_app xs ys, List.append_assoc]
theorem preL_take {xs : List Vl} {i : Nat} {x : Vl} (h : xs[i]? = some x) : preL (xs.take (i + 1)) = preL (xs.take i) ++ preV x := by
  rw [List.take_add_one, h, preL_app]
  congr 1
  exact List.append_nil _
theorem preL_le : ∀ (xs : List Vl) (i : Nat), (preL (xs.take i)).length ≤ (preL xs).length
  | [], i => by rw [List.take_nil]; exact Nat.le_refl _
  | x :: xs, 0 => Nat.zero_le _
  | x :: xs, i + 1 => by
    show (preV x ++ preL (xs.take i)).length ≤ (preV x ++ preL xs).length
    rw [List.length_append, List.length_append]
    have := preL_le xs i
    omega
theorem preV_le {xs : List Vl} {i : Nat} {x : Vl} (h : xs[i]? = some x) : (preL (xs.take i)).length + (preV x).length ≤ (preL xs).length := by
  have q := preL_le xs (i + 1)
  rw [preL_take h, List.length_append] at q
  exact q
def sp__law_walk (K : Frg) (n : Nat) : Sp := sp1 fun a H Q _ => ∃ (d : Vl) (m : Nat), TpV H a d ∧ d.lv m ∧ m < n ∧ (preV d).length ≤ 16000000 ∧ ∀ (p : Addr) (vs : List V) (H' : Hp), H p = none → H' p = some (.lst vs) → Paired (TpV H') vs (preV d) → Same H H' → Q (.ref p) H'
theorem no__law_walk {K : Frg} {vs : List V} {H : Hp} {Q : VK} {E : XK} (h : sp__law_walk K 0 vs H Q E) : False := by
  obtain ⟨_, _, d, m, _, _, h, _⟩ := h
  exact absurd h (Nat.not_lt_zero _)
def WrOk (H : Hp) (a : V) (d : Vl) (m : Nat) (Q : VK) : Prop := TpV H a d ∧ NumAll d ∧ (preV d).length ≤ sizeLine ∧ (fstL (preV d) = none → d.gf m ∧ Full d ∧ m < 26 ∧ (octV d).length ≤ 16000000 ∧ Out H (octV d) Q)
def sp_write_bencode (K : Frg) : Sp := sp1 fun a H Q E => ∃ (d : Vl) (m : Nat), WrOk H a d m Q ∧ ∀ i, fstL (preV d) = some i → ∀ x H', H' x = some (.xd [("what", .int (i : Nat))]) → Same H H' → E (.ref (C_Unwritable K)) (some x) H'
def sp__law_told (K : Frg) : Sp := sp1 fun a H Q _ => ∃ (d : Vl) (m : Nat), WrOk H a d m Q ∧ ∀ i, fstL (preV d) = some i → ∀ T H', H' T = some (.tup [.str "lacks", .int (i : Nat)]) → Same H H' → Q (.ref T) H'
/-- list + list -/
theorem r_catP {a b : Addr} {xs ys : List V} {H : Hp} {Q : VK} (h1 : H a = some (.lst xs)) (h2 : H b = some (.lst ys)) (hl : xs.length + ys.length ≤ 16700000) (h : ∀ p H', H p = none → H' p = some (.lst (xs ++ ys)) → Same H H' → Q (.ref p) H') : rCat (.ref a) (.ref b) H Q :=
  ⟨a, b, _, _, rfl, rfl, h1, h2, Nat.le_trans hl (by decide : 16700000 ≤ sizeLine), fun p hp => h p _ hp upd_same (same_upd hp _)⟩
def sp__law_lacks (K : Frg) : Sp := sp1 fun v H Q _ => ∃ (p : Addr) (k : Str) (xs : List V) (r : List PyData), v = .ref p ∧ H p = some (.tup (.str k :: xs)) ∧ TpAll H xs r ∧ (Lg k r ∨ k = "list" ∨ k = "map") ∧ ∀ H', Same H H' → Q (.bl (lackK k r)) H'
def sp__law_kinds (K : Frg) : Sp := sp1 fun a H Q _ => ∃ S l, a = .ref S.a ∧ LB K S l H ∧ ∀ (q : Addr) (ks : List Str) (H' : Hp), KsOk ks → q ≠ S.a → H' q = some (.lst (ks.map V.str)) → LB K S l H' → Keep S H H' → Q (.ref q) H'
section
variable {P : Program} {w : World} {K : PySem.W.Frag} {mg : Str → Option Value} {base : Heap} {f : Addr} {fd : FuncData}
theorem ok_write_bencode (F : FunD K "write_bencode" "write_bencode" (defArgs s_write_bencode) (defBody s_write_bencode) (defScope s_write_bencode) [] [] (glAd "write_bencode" K) fd) (m : mg "write_bencode" = some (.ref (glAd "write_bencode" K))) (nb : Nm K mg) (c_check_writable : CalX P w K mg base 6 "check_writable" (sp_check_writable K)) (c__octets_of : Cal P w K mg base 30 "_octets_of" (sp__octets_of K 26) []) : CalX P w K mg base 31 "write_bencode" (sp_write_bencode K) := by
  refine calXD F m sc_write_bencode (fun _ _ _ _ _ _ us hl => match us, hl with | [_], _ => rfl) len1 (fun cdv A outer s H vs Q E hr h => ⟨_, (pss_cons (ps_expr (pe_cX c_check_writable hr (by decide) rfl (takes_of rfl rfl rfl rfl) (pa_cons (pv 0) (pa_cons (pe_gc (v := .ref (glAd "is_lacking" K)) rfl ⟨_, nb.f_is_lacking, rfl⟩) pa_nil))))
    (pss_one (ps_ret (pe_c c__octets_of hr (by decide) rfl (pa_cons (pv 0) pa_nil))))), ?_⟩)
  obtain ⟨_, rfl, d, m, ⟨tp, nu, hz, h1⟩, h2⟩ := h
  walk_at "rf"
  refine ⟨_, _, rfl, d, rfl, tp, nu, hz, fun e H1 s1 => ?_, h2⟩
  obtain ⟨q0, q1, q2, q3, q4⟩ := h1 e
  walk_at "rf"
  exact ⟨_, rfl, d, m, Tp.tk (Same.tk s1) _ _ tp.1, q0, q1, q2, q3, q4.same s1⟩
theorem ok__law_told (F : FunD K "_law_told" "_law_told" (defArgs s__law_told) (defBody s__law_told) (defScope s__law_told) [] [] (glAd "_law_told" K) fd) (m : mg "_law_told" = some (.ref (glAd "_law_told" K))) (nb : Nm K mg) (z_AlikeError : Raz P w K mg base "AlikeError" (C_AlikeError K) "what") (c_write_bencode : CalX P w K mg base 31 "write_bencode" (sp_write_bencode K)) : Cal P w K mg base 32 "_law_told" (sp__law_told K) [] := by
  refine calD F m sc__law_told (fun _ _ _ _ _ _ us hl => match us, hl with | [_], _ => rfl) len1 (fun cdv A outer s H vs Q E hr h => ⟨_, (pss_one (ps_try_asE (i := 1) (Wout := fun _ _ _ _ => False) rfl rfl sc__law_told.nd rfl rfl ⟨rfl, by decide, .inl nb.g_AlikeError⟩ takes0 (fun W pn xe tk pw => ⟨_, (pss_one (ps_ret (pe_cX c_write_bencode hr (by decide) rfl tk (pa_cons (pv 0) pa_nil)))), rfl⟩)
    (fun a oe cls d pn hz hf => ⟨_, (pss_cons (ps_if (PW.pt (pw_or (pt_val (pe_callB (call_isX hz hf) (by rfl) nb.isinstance (by decide +kernel) (pa_cons (pv 1) (pa_cons (pe_gc (v := .ref (C_Unreadable K)) rfl ⟨_, nb.g_Unreadable, rfl⟩) pa_nil)))) (pw_or (pt_val (pe_callB (call_isX hz hf) (by rfl) nb.isinstance (by decide +kernel) (pa_cons (pv 1) (pa_cons (pe_gc (v := .ref (C_Doubled K)) rfl ⟨_, nb.g_Doubled, rfl⟩) pa_nil)))) (pw_or1 (pt_not (pt_val (pe_callB (call_isX hz hf) (by rfl) nb.isinstance (by decide +kernel) (pa_cons (pv 1) (pa_cons (pe_gc (v := .ref (C_Unwritable K)) rfl ⟨_, nb.g_Unwritable, rfl⟩) pa_nil)))))))))
    (pss_one (ps_ret (pe_lstE (pa_cons pe_str pa_nil))))
    pss_nil)
    (pss_one (ps_ret (pe_tupE (pa_cons pe_str (pa_cons (pe_xf nb.x_Unwritable.xf nb.x_Unwritable.no hz hf (pv 1)) pa_nil)))))), rfl⟩))), ?_⟩)
  obtain ⟨_, rfl, d, m, ⟨tp, nu, hz, h1⟩, h2⟩ := h
  walk_at "rf"
  refine ⟨_, rfl, d, m, ⟨tp, nu, hz, fun e => ?_⟩, fun i e x H' hd c => ⟨true, nb.e_Unwritable_AlikeError, fun hxx hx => ?_, fun q => Bool.noConfusion q⟩⟩
  · obtain ⟨q0, q1, q2, q3, q4⟩ := h1 e
    refine ⟨q0, q1, q2, q3, fun p H' n g s' => ?_⟩
    walk_at "rf"
    exact q4 p H' n g s'
  · dsimp only
    intro _
    walk_at "rf"
    refine ⟨_, _, x, _, false, rfl, rfl, rfl, hd, nb.y_Unwritable, nb.i_Unwritable_Unreadable, ?_⟩
    walk_at "rf"
    refine ⟨_, _, x, _, false, rfl, rfl, rfl, hd, nb.y_Unwritable, nb.i_Unwritable_Doubled, ?_⟩
    walk_at "rf"
    refine ⟨_, _, x, _, true, rfl, rfl, rfl, hd, nb.y_Unwritable, nb.i_Unwritable_Unwritable, ?_⟩
    walk_at "rf"
    refine ⟨rfl, x, _, _, rfl, hd, lk_hit _ _ _, ?_⟩
    walk_at "rf"
    refine ⟨by show 2 ≤ sizeLine; decide, fun T H2 nT gT s2 => ?_⟩
    exact h2 i e T H2 gT (c.trans s2)
theorem ok__law_walk (n : Nat) (F : FunD K "_law_walk" "_law_walk" (defArgs s__law_walk) (defBody s__law_walk) (defScope s__law_walk) [] [] (glAd "_law_walk" K) fd) (m : mg "_law_walk" = some (.ref (glAd "_law_walk" K))) (nb : Nm K mg) (c__law_walk : Cal P w K mg base (1 + n) "_law_walk" (sp__law_walk K n) []) : Cal P w K mg base (1 + n + 1) "_law_walk" (sp__law_walk K (n + 1)) [] := by
  refine calD F m sc__law_walk (fun _ _ _ _ _ _ us hl => match us, hl with | [_], _ => rfl) len1 (fun cdv A outer s H vs Q E hr h => ⟨_, (pss_cons (ps_set (i := 1) sc__law_walk.nd rfl (Or.inl rfl) (pe_lstE (pa_cons (pv 0) pa_nil)))
    (pss_cons (ps_if (pt_cmpR op_eq (pe_ix ix_tup (pv 0) pe_int (fun _ _ => rfl)) pe_str (nomark _))
    (pss_one (ps_for PassesOwn.never rfl (pi_tup (pe_ix ix_tup (pv 0) pe_int (fun _ _ => rfl))) (pg_name (i := 2) sc__law_walk.nd rfl (Or.inl rfl))
    (pss_one (ps_set (i := 1) sc__law_walk.nd rfl (Or.inl rfl) (pe_op op_cat (pv 1) (pe_c c__law_walk hr (by omega) rfl (pa_cons (pv 2) pa_nil)))))))
    pss_nil)
    (pss_cons (ps_if (pt_cmpR op_eq (pe_ix ix_tup (pv 0) pe_int (fun _ _ => rfl)) pe_str (nomark _))
    (pss_one (ps_for PassesOwn.never rfl (pi_tup (pe_ix ix_tup (pv 0) pe_int (fun _ _ => rfl))) (pg_name (i := 3) sc__law_walk.nd rfl (Or.inl rfl))
    (pss_one (ps_set (i := 1) sc__law_walk.nd rfl (Or.inl rfl) (pe_op op_cat (pv 1) (pe_c c__law_walk hr (by omega) rfl (pa_cons (pe_ix ix_tup (pv 3) pe_int (fun _ _ => rfl)) pa_nil)))))))
    pss_nil)
    (pss_one (ps_ret (pv 1)))))), ?_⟩)
  obtain ⟨v, rfl, d, m, ⟨t, wd⟩, lv, hm, hz, h⟩ := h
  -- 0:value 1:found 2:item 3:entry
  walk_at "rf"
  refine ⟨by show 1 ≤ sizeLine; decide, fun p H2 np g2 s2 => ?_⟩
  have g2 : H2 p = some (.lst [v]) := g2
  cases d with
  | lf k r =>
    obtain ⟨a, us, rfl, ha, hu⟩ := tp_tup t
    cases hu with
    | cons r1 r2 =>
    cases r1
    have ha2 := s2 _ _ ha
    walk_at "rf"
    refine r_ixT (SqT.of ha2) (atI_nat (j := 0) rfl) ?_
    walk_at "rf"
    refine r_iteN wd.1 ?_
    walk_at "rf"
    refine r_ixT (SqT.of ha2) (atI_nat (j := 0) rfl) ?_
    walk_at "rf"
    refine r_iteN wd.2 ?_
    walk_at "rf"
    exact h p _ H2 np g2 (.cons (TpV.tk (Same.tk s2) ⟨t, wd⟩) .nil) s2
  | ls xs =>
    obtain ⟨m, rfl⟩ : ∃ q, m = q + 1 := by
      cases m with
      | zero => exact lv.elim
      | succ m => exact ⟨m, rfl⟩
    have lv : lvL m xs := lv
    obtain ⟨a, us, rfl, ha, hu⟩ := tp_tup t
    cases hu with
    | cons r1 r2 =>
    cases r1
    cases r2 with
    | cons r2 r3 =>
    cases r3
    obtain ⟨b, vs, rfl, hb, hv⟩ := tp_tup r2
    walk_at "rf"
    refine r_ixT (SqT.of (s2 _ _ ha)) rfl ?_
    walk_at "rf"
    refine r_itep (show ("list" : Str) = "list" from rfl) ?_
    walk_at "rf"
    refine r_ixT (SqT.of (s2 _ _ ha)) rfl ?_
    walk_at "rf"
    have hz : (Vl.ls xs :: preL xs).length ≤ 16000000 := hz
    rw [List.length_cons] at hz
    have pv := tpV_all hv wd.2
    have hvl := Paired.length pv
    refine ⟨b, rfl, ⟨vs, SqT.of (s2 _ _ hb)⟩, r_eachT (xs := vs) (fun i σ H' => Same H H' ∧ ∃ p ws y y2, H' p = some (.lst ws) ∧ Paired (TpV H') ws (Vl.ls xs :: preL (xs.take i)) ∧ H p = none ∧ σ = [some (.ref a), some (.ref p), y, y2]) ⟨s2, p, _, none, none, g2, .cons (TpV.tk (Same.tk s2) ⟨t, wd⟩) .nil, np, rfl⟩ (fun i σ H' q => SqT.of (q.1 _ _ hb)) ?_ ?_⟩
    · rintro i x σ H' hx ⟨s3, p, ws, y, y2, gp, pp, np, rfl⟩
      obtain ⟨e, he, t2⟩ := paired_get pv hx
      have le := preV_le he
      have lw := Paired.length pp
      rw [List.length_cons] at lw
      walk_at "rf"
      refine ⟨_, rfl, e, m, t2.tk (Same.tk s3), lvL_mem lv e (List.mem_of_getElem? he), by omega, by omega, fun q us H4 nq g4 pq s4 => ?_⟩
      have lq := Paired.length pq
      walk_at "rf"
      refine r_catP (s4 _ _ gp) g4 (by omega) fun q5 H5 n5 g5 s5 => ?_
      walk_at "rf"
      refine ⟨s3.trans (s4.trans s5), q5, _, _, _, g5, ?_, (s3.trans s4).free n5, rfl⟩
      rw [preL_take he]
      exact paired_app (paired_imp (fun _ _ z => TpV.tk (Same.tk (s4.trans s5)) z) pp) (paired_imp (fun _ _ z => TpV.tk (Same.tk s5) z) pq)
    · rintro σ H' ⟨s3, p, ws, y, y2, gp, pp, np, rfl⟩
      rw [hvl, List.take_length] at pp
      walk_at "rf"
      refine r_ixT (SqT.of (s3 _ _ ha)) rfl ?_
      walk_at "rf"
      refine r_iteN (show ¬ ("list" : Str) = "map" by decide +kernel) ?_
      walk_at "rf"
      exact h p ws H' np gp pp s3
  | mp es =>
    obtain ⟨m, rfl⟩ : ∃ q, m = q + 1 := by
      cases m with
      | zero => exact lv.elim
      | succ m => exact ⟨m, rfl⟩
    have lv : lvM m es := lv
    obtain ⟨a, us, rfl, ha, hu⟩ := tp_tup t
    cases hu with
    | cons r1 r2 =>
    cases r1
    cases r2 with
    | cons r2 r3 =>
    cases r3
    obtain ⟨b, vs, rfl, hb, hv⟩ := tp_tup r2
    walk_at "rf"
    refine r_ixT (SqT.of (s2 _ _ ha)) rfl ?_
    walk_at "rf"
    refine r_iteN (show ¬ ("map" : Str) = "list" by decide +kernel) ?_
    walk_at "rf"
    refine r_ixT (SqT.of (s2 _ _ ha)) rfl ?_
    walk_at "rf"
    refine r_itep (show ("map" : Str) = "map" from rfl) ?_
    walk_at "rf"
    refine r_ixT (SqT.of (s2 _ _ ha)) rfl ?_
    walk_at "rf"
    have hz : (Vl.mp es :: preM es).length ≤ 16000000 := hz
    rw [List.length_cons, preM_eq, ← preL_eq] at hz
    have hvl : vs.length = es.length := by rw [tpAll_len hv, datM_map, List.length_map]
    refine ⟨b, rfl, ⟨vs, SqT.of (s2 _ _ hb)⟩, r_eachT (xs := vs) (fun i σ H' => Same H H' ∧ ∃ p ws y y2, H' p = some (.lst ws) ∧ Paired (TpV H') ws (Vl.mp es :: preL ((es.map (·.2)).take i)) ∧ H p = none ∧ σ = [some (.ref a), some (.ref p), y, y2]) ⟨s2, p, _, none, none, g2, .cons (TpV.tk (Same.tk s2) ⟨t, wd⟩) .nil, np, rfl⟩ (fun i σ H' q => SqT.of (q.1 _ _ hb)) ?_ ?_⟩
    · rintro i x σ H' hx ⟨s3, p, ws, y, y2, gp, pp, np, rfl⟩
      obtain ⟨dd, hd, t2⟩ := tpAll_get hv hx
      rw [datM_map, List.getElem?_map] at hd
      cases he : es[i]? with
      | none => rw [he] at hd; cases hd
      | some en =>
      rw [he] at hd
      cases hd
      obtain ⟨c, zs, rfl, hc, re⟩ := tp_tup t2
      cases re with
      | cons q1 re =>
      cases re with
      | cons q2 re =>
      cases re
      have he2 : (es.map (·.2))[i]? = some en.2 := by rw [List.getElem?_map, he]; rfl
      have le := preV_le he2
      have lw := Paired.length pp
      rw [List.length_cons] at lw
      have me := List.mem_of_getElem? he
      have t3 : TpV H _ en.2 := ⟨q2, wdM_mem wd.2 en me⟩
      walk_at "rf"
      refine r_ixT (SqT.of (s3 _ _ hc)) (atI_nat (j := 1) rfl) ?_
      walk_at "rf"
      refine ⟨_, rfl, en.2, m, t3.tk (Same.tk s3), lvM_mem lv en me, by omega, by omega, fun q us H4 nq g4 pq s4 => ?_⟩
      have lq := Paired.length pq
      walk_at "rf"
      refine r_catP (s4 _ _ gp) g4 (by omega) fun q5 H5 n5 g5 s5 => ?_
      walk_at "rf"
      refine ⟨s3.trans (s4.trans s5), q5, _, _, _, g5, ?_, (s3.trans s4).free n5, rfl⟩
      rw [preL_take he2]
      exact paired_app (paired_imp (fun _ _ z => TpV.tk (Same.tk (s4.trans s5)) z) pp) (paired_imp (fun _ _ z => TpV.tk (Same.tk s5) z) pq)
    · rintro σ H' ⟨s3, p, ws, y, y2, gp, pp, np, rfl⟩
      rw [hvl, List.take_of_length_le (by rw [List.length_map]; exact Nat.le_refl _), preL_eq, ← preM_eq] at pp
      walk_at "rf"
      exact h p ws H' np gp pp s3
theorem rec__law_walk (F : FunD K "_law_walk" "_law_walk" (defArgs s__law_walk) (defBody s__law_walk) (defScope s__law_walk) [] [] (glAd "_law_walk" K) fd) (m : mg "_law_walk" = some (.ref (glAd "_law_walk" K))) (nb : Nm K mg) : ∀ n, Cal P w K mg base (1 + n) "_law_walk" (sp__law_walk K n) []
  | 0 => calD (k := 0) F m sc__law_walk (fun _ _ _ _ _ _ us hl => match us, hl with | [_], _ => rfl) (fun _ _ _ _ h => (no__law_walk h).elim) (fun _ _ _ _ _ _ _ _ _ h => (no__law_walk h).elim)
  | n + 1 => ok__law_walk n F m nb (rec__law_walk F m nb n)
theorem ok__law_lacks (F : FunD K "_law_lacks" "_law_lacks" (defArgs s__law_lacks) (defBody s__law_lacks) (defScope s__law_lacks) [] [] (glAd "_law_lacks" K) fd) (m : mg "_law_lacks" = some (.ref (glAd "_law_lacks" K))) (nb : Nm K mg) : Cal P w K mg base 1 "_law_lacks" (sp__law_lacks K) [] := by
  refine calD F m sc__law_lacks (fun _ _ _ _ _ _ us hl => match us, hl with | [_], _ => rfl) len1 (fun cdv A outer s H vs Q E hr h => ⟨_, (pss_cons (ps_if (pt_cmpR op_eq (pe_ix ix_tup (pv 0) pe_int (fun _ _ => rfl)) pe_str (nomark _))
    (pss_one (ps_ret (pe_or (pe_cmpR op_lt (pe_ix ix_tup (pv 0) pe_int (fun _ _ => rfl)) pe_int (nomark _)) (pe_one (pe_cmpR op_gt (pe_ix ix_tup (pv 0) pe_int (fun _ _ => rfl)) pe_int (nomark _))))))
    pss_nil)
    (pss_one (ps_ret (pe_cmpR op_in_seq (pe_ix ix_tup (pv 0) pe_int (fun _ _ => rfl)) (pe_lstE (pa_cons pe_str (pa_cons pe_str (pa_cons pe_str pa_nil)))) rfl)))), ?_⟩)
  obtain ⟨_, rfl, p, k, xs, r, rfl, hp, hx, lgx, hq⟩ := h
  have h := hq H (fun _ _ z => z)
  have num : ∀ m e : Int, k = "number" → r = [.int m, .int e] → xs = [.int m, .int e] := fun m e _ er => by
    subst er
    cases hx with
    | cons h1 h2 =>
      cases h1
      cases h2 with
      | cons h1 h2 =>
        cases h1
        cases h2
        rfl
  walk_at "rf"
  refine r_ixT (SqT.of hp) (atI_nat (j := 0) rfl) ?_
  walk_at "rf"
  by_cases c : k = "number"
  · have lg : Lg k r := by
      rcases lgx with q | q | q
      · exact q
      · rw [c] at q
        exact absurd q (by decide +kernel)
      · rw [c] at q
        exact absurd q (by decide +kernel)
    obtain ⟨m, e, er⟩ := num_lb lg c
    have ex := num m e c er
    subst c er ex
    rw [lack_num] at h
    refine r_itep rfl ?_
    walk_at "rf"
    refine r_ixT (SqT.of hp) (atI_nat (j := 2) rfl) ?_
    walk_at "rf"
    by_cases c0 : e < 0
    · rw [if_pos (by rw [decide_eq_true c0])]
      rw [decide_eq_false (show ¬ 0 ≤ e by omega)] at h
      exact h
    · rw [if_neg (by rw [decide_eq_false c0]; decide)]
      walk_at "rf"
      refine r_ixT (SqT.of hp) (atI_nat (j := 2) rfl) ?_
      walk_at "rf"
      have eq : (!(decide (0 ≤ e) && decide (e ≤ 800))) = decide (800 < e) := by
        rw [decide_eq_true (show 0 ≤ e by omega), Bool.true_and]
        by_cases c8 : e ≤ 800
        · rw [decide_eq_true c8, decide_eq_false (show ¬ 800 < e by omega)]
          rfl
        · rw [decide_eq_false c8, decide_eq_true (show 800 < e by omega)]
          rfl
      rw [eq] at h
      exact h
  · refine r_iteN c ?_
    walk_at "rf"
    refine r_ixT (SqT.of hp) (atI_nat (j := 0) rfl) ?_
    walk_at "rf"
    refine ⟨by show 3 ≤ sizeLine; decide, fun q H2 n2 g2 s2 => ?_⟩
    refine ⟨q, _, rfl, .inl (SqL.of g2), rfl, rfl, ?_⟩
    rw [if_neg Bool.false_ne_true, in_three]
    have e : (decide (k = "null") || (decide (k = "truth") || decide (k = "text"))) = lackK k r := by
      rcases lgx with lg | q | q
      rotate_left
      · subst q
        unfold lackK
        rw [if_neg (by decide +kernel)]
        decide +kernel
      · subst q
        unfold lackK
        rw [if_neg (by decide +kernel)]
        decide +kernel
      cases lg with
      | of h =>
        cases h with
        | number m e _ _ => exact absurd rfl c
        | bytes os _ => rw [lack_bytes]; decide +kernel
      | far m e _ => exact absurd rfl c
      | odd k r h =>
        rw [lack_odd h]
        rcases h with e | e | e <;> subst e <;> decide +kernel
    rw [e]
    exact hq H2 s2
theorem ok__law_kinds (F : FunD K "_law_kinds" "_law_kinds" (defArgs s__law_kinds) (defBody s__law_kinds) (defScope s__law_kinds) [] [] (glAd "_law_kinds" K) fd) (m : mg "_law_kinds" = some (.ref (glAd "_law_kinds" K))) (nb : Nm K mg) (c__law_next : Cal P w K mg base 1 "_law_next" (sp__law_next K) []) : Cal P w K mg base 2 "_law_kinds" (sp__law_kinds K) [] := by
  refine calD F m sc__law_kinds (fun _ _ _ _ _ _ us hl => match us, hl with | [_], _ => rfl) len1 (fun cdv A outer s H vs Q E hr h => ⟨_, (pss_cons (ps_set (i := 1) sc__law_kinds.nd rfl (Or.inl rfl) (pe_ix ix_list (pe_lstE (pa_cons pe_str (pa_cons pe_str (pa_cons pe_str (pa_cons pe_str (pa_cons pe_str (pa_cons pe_str (pa_cons pe_str (pa_cons pe_str pa_nil))))))))) (pe_c c__law_next hr (by decide) rfl (pa_cons (pv 0) (pa_cons pe_int pa_nil))) (fun _ _ => rfl)))
    (pss_one (ps_ret (pe_lstE (pa_cons pe_str (pa_cons pe_str (pa_cons pe_str (pa_cons pe_str (pa_cons pe_str (pa_cons pe_str (pa_cons pe_str (pa_cons (pv 1) pa_nil)))))))))))), ?_⟩)
  obtain ⟨_, rfl, S, l, rfl, L, h⟩ := h
  walk_at "rf"
  refine ⟨by show 8 ≤ sizeLine; decide, fun p1 H1 n1 g1 s1 => ?_⟩
  have L1 := L.same s1
  walk_at "rf"
  refine b_next L1 (by decide) fun r2 H2 a2 b2 L2 k2 => ?_
  have g1 : H1 p1 = some (.lst ((["number", "bytes", "far", "far", "null", "truth", "text", "far"] : List Str).map V.str)) := g1
  have hr : r2.toNat < 8 := by omega
  have er : r2 = ((r2.toNat : Nat) : Int) := by omega
  obtain ⟨o, ho⟩ : ∃ o, (["number", "bytes", "far", "far", "null", "truth", "text", "far"] : List Str)[r2.toNat]? = some o := ⟨_, List.getElem?_eq_getElem hr⟩
  have hm := List.mem_of_getElem? ho
  have q := atI_nat (xs := (["number", "bytes", "far", "far", "null", "truth", "text", "far"] : List Str).map V.str) (j := r2.toNat) (v := .str o) (by rw [List.getElem?_map, ho]; rfl)
  rw [← er] at q
  refine r_ixL (SqL.of (k2 _ _ (L.ne_free n1) g1)) q ?_
  walk_at "rf"
  refine ⟨by show 8 ≤ sizeLine; decide, fun p3 H3 n3 g3 s3 => ?_⟩
  refine h p3 ["number", "number", "number", "bytes", "bytes", "bytes", "bytes", o] H3 ⟨by show 0 < 8; decide, by show 8 ≤ 100; decide, fun k hk => ?_⟩ (L2.ne_free n3) g3 (L2.same s3) (((Keep.of s1).trans k2).trans (Keep.of s3))
  simp only [List.mem_cons, List.not_mem_nil, or_false] at hk hm
  rcases hk with e | e | e | e | e | e | e | e <;> (try (rw [e]; simp)) ; subst e; rcases hm with e | e | e | e | e | e | e | e <;> rw [e] <;> simp
end

/-! ### the drawn values: depth, width, size -/
theorem lg_kind {k : Str} {r : List PyData} (h : Lg k r) : k ≠ "list" ∧ k ≠ "map" := by
  cases h with
  | of h => cases h <;> exact ⟨by decide +kernel, by decide +kernel⟩
  | far m e h => exact ⟨by decide +kernel, by decide +kernel⟩
  | odd k r h => rcases h with e | e | e <;> subst e <;> exact ⟨by decide +kernel, by decide +kernel⟩
mutual
theorem gf_wd : ∀ (n : Nat) (t : Vl), t.gf n → t.wd ∧ t.lv n
  | n, .lf k r, h => ⟨lg_kind (k := k) (r := r) (by cases n <;> exact h), by cases n <;> exact trivial⟩
  | 0, .ls _, h => h.elim
  | 0, .mp _, h => h.elim
  | n + 1, .ls xs, h => by
    have q := gfL_wd n xs h.2
    exact ⟨⟨Nat.le_trans h.1 (by decide), q.1⟩, q.2⟩
  | n + 1, .mp es, h => by
    have q := gfM_wd n es h.2.2.2
    exact ⟨⟨Nat.le_trans h.1 (by decide), q.1⟩, q.2⟩
theorem gfL_wd : ∀ (n : Nat) (xs : List Vl), gfL n xs → wdL xs ∧ lvL n xs
  | _, [], _ => ⟨trivial, trivial⟩
  | n, x :: xs, h => by
    have a := gf_wd n x h.1
    have b := gfL_wd n xs h.2
    exact ⟨⟨a.1, b.1⟩, a.2, b.2⟩
theorem gfM_wd : ∀ (n : Nat) (es : List (List Int × Vl)), gfM n es → wdM es ∧ lvM n es
  | _, [], _ => ⟨trivial, trivial⟩
  | n, (k, v) :: es, h => by
    have a := gf_wd n v h.1
    have b := gfM_wd n es h.2
    exact ⟨⟨a.1, b.1⟩, a.2, b.2⟩
end
mutual
theorem pre_vsz : ∀ t : Vl, (preV t).length ≤ vsz t
  | .lf _ _ => Nat.le_refl _
  | .ls xs => by
    have := preL_vsz xs
    show (preL xs).length + 1 ≤ 1 + vszL xs
    omega
  | .mp es => by
    have := preM_vsz es
    show (preM es).length + 1 ≤ 1 + vszM es
    omega
theorem preL_vsz : ∀ xs : List Vl, (preL xs).length ≤ vszL xs
  | [] => Nat.le_refl _
  | x :: xs => by
    have a := pre_vsz x
    have b := preL_vsz xs
    show (preV x ++ preL xs).length ≤ vsz x + vszL xs
    rw [List.length_append]
    omega
theorem preM_vsz : ∀ es : List (List Int × Vl), (preM es).length ≤ vszM es
  | [] => Nat.le_refl _
  | (k, v) :: es => by
    have a := pre_vsz v
    have b := preM_vsz es
    show (preV v ++ preM es).length ≤ 1 + vsz v + vszM es
    rw [List.length_append]
    omega
end
mutual
theorem gf_num : ∀ (n : Nat) (t : Vl), t.gf n → ∀ x ∈ preV t, NumK (kindV x) (restV x)
  | n, .lf k r, h => fun x hx => by
    rw [List.mem_singleton.mp hx]
    exact num_lb (k := k) (r := r) (by cases n <;> exact h)
  | 0, .ls _, h => h.elim
  | 0, .mp _, h => h.elim
  | n + 1, .ls xs, h => fun x hx => by
    rcases List.mem_cons.mp hx with e | e
    · rw [e]
      exact fun z => absurd z (show ¬ ("list" : Str) = "number" by decide +kernel)
    · exact gfL_num n xs h.2 x e
  | n + 1, .mp es, h => fun x hx => by
    rcases List.mem_cons.mp hx with e | e
    · rw [e]
      exact fun z => absurd z (show ¬ ("map" : Str) = "number" by decide +kernel)
    · exact gfM_num n es h.2.2.2 x e
theorem gfL_num : ∀ (n : Nat) (xs : List Vl), gfL n xs → ∀ x ∈ preL xs, NumK (kindV x) (restV x)
  | _, [], _ => fun x hx => absurd hx (by show ¬ x ∈ []; simp)
  | n, y :: ys, h => fun x hx => by
    rcases List.mem_append.mp hx with e | e
    · exact gf_num n y h.1 x e
    · exact gfL_num n ys h.2 x e
theorem gfM_num : ∀ (n : Nat) (es : List (List Int × Vl)), gfM n es → ∀ x ∈ preM es, NumK (kindV x) (restV x)
  | _, [], _ => fun x hx => absurd hx (by show ¬ x ∈ []; simp)
  | n, (k, v) :: ys, h => fun x hx => by
    rcases List.mem_append.mp hx with e | e
    · exact gf_num n v h.1 x e
    · exact gfM_num n ys h.2 x e
end
mutual
theorem gf_lgs : ∀ (n : Nat) (t : Vl), t.gf n → ∀ x ∈ preV t, Lg (kindV x) (restV x) ∨ kindV x = "list" ∨ kindV x = "map"
  | n, .lf k r, h => fun x hx => by
    rw [List.mem_singleton.mp hx]
    exact .inl (show Lg k r by cases n <;> exact h)
  | 0, .ls _, h => h.elim
  | 0, .mp _, h => h.elim
  | n + 1, .ls xs, h => fun x hx => by
    rcases List.mem_cons.mp hx with e | e
    · rw [e]
      exact .inr (.inl rfl)
    · exact gfL_lgs n xs h.2 x e
  | n + 1, .mp es, h => fun x hx => by
    rcases List.mem_cons.mp hx with e | e
    · rw [e]
      exact .inr (.inr rfl)
    · exact gfM_lgs n es h.2.2.2 x e
theorem gfL_lgs : ∀ (n : Nat) (xs : List Vl), gfL n xs → ∀ x ∈ preL xs, Lg (kindV x) (restV x) ∨ kindV x = "list" ∨ kindV x = "map"
  | _, [], _ => fun x hx => absurd hx (by show ¬ x ∈ []; simp)
  | n, y :: ys, h => fun x hx => by
    rcases List.mem_append.mp hx with e | e
    · exact gf_lgs n y h.1 x e
    · exact gfL_lgs n ys h.2 x e
theorem gfM_lgs : ∀ (n : Nat) (es : List (List Int × Vl)), gfM n es → ∀ x ∈ preM es, Lg (kindV x) (restV x) ∨ kindV x = "list" ∨ kindV x = "map"
  | _, [], _ => fun x hx => absurd hx (by show ¬ x ∈ []; simp)
  | n, (k, v) :: ys, h => fun x hx => by
    rcases List.mem_append.mp hx with e | e
    · exact gf_lgs n v h.1 x e
    · exact gfM_lgs n ys h.2 x e
end
theorem len_strO {os : List Int} (h : os.length ≤ 800) : (strO os).length ≤ 1000 := by
  have dl : (dg os.length).length ≤ 5 := dg_lenP (Nat.lt_of_le_of_lt h (by decide : 800 < 10 ^ 4))
  unfold strO
  rw [List.length_append, List.length_append, asc_len]
  show _ + 1 + _ ≤ 1000
  omega
theorem len_lfO {k : Str} {r : List PyData} (h : Lb k r) : (lfO k r).length ≤ 2000 := by
  cases h with
  | number m e nf hm =>
    have he : 0 ≤ e ∧ e ≤ 800 := by
      rcases nf with ⟨_, q⟩ | q
      · omega
      · exact q.2
    have hl := sdg_len hm
    rw [lfO_num, show numO m e = [105] ++ asc (sdg m ++ List.replicate e.toNat 48) ++ [101] from rfl, List.length_append, List.length_append, asc_len, List.length_append, List.length_replicate]
    show 1 + _ + 1 ≤ 2000
    omega
  | bytes os ho =>
    rw [lfO_bytes]
    have := len_strO (os := os) (by omega)
    omega
mutual
theorem oct_vsz : ∀ (n : Nat) (t : Vl), t.gf n → Full t → (octV t).length ≤ 2000 * vsz t
  | n, .lf k r, h, f => len_lfO (Full.leaf h f)
  | 0, .ls _, h, _ => h.elim
  | 0, .mp _, h, _ => h.elim
  | n + 1, .mp es, h, f => by
    have := octM_vsz n es h.2.2.2 h.2.2.1 fun x hx => f x (List.mem_cons_of_mem _ hx)
    show (100 :: (octM es ++ [101])).length ≤ 2000 * (1 + vszM es)
    rw [List.length_cons, List.length_append]
    show (octM es).length + 1 + 1 ≤ _
    omega
  | n + 1, .ls xs, h, f => by
    have := octL_vsz n xs h.2 fun x hx => f x (List.mem_cons_of_mem _ hx)
    show (108 :: (octL xs ++ [101])).length ≤ 2000 * (1 + vszL xs)
    rw [List.length_cons, List.length_append]
    show (octL xs).length + 1 + 1 ≤ _
    omega
theorem octL_vsz : ∀ (n : Nat) (xs : List Vl), gfL n xs → (∀ x ∈ preL xs, lackV x = false) → (octL xs).length ≤ 2000 * vszL xs
  | _, [], _, _ => Nat.zero_le _
  | n, x :: xs, h, f => by
    have a := oct_vsz n x h.1 fun y hy => f y (List.mem_append_left _ hy)
    have b := octL_vsz n xs h.2 fun y hy => f y (List.mem_append_right _ hy)
    show (octV x ++ octL xs).length ≤ 2000 * (vsz x + vszL xs)
    rw [List.length_append]
    omega
theorem octM_vsz : ∀ (n : Nat) (es : List (List Int × Vl)), gfM n es → (∀ e ∈ es, Kp e.1) → (∀ x ∈ preM es, lackV x = false) → (octM es).length ≤ 2000 * vszM es
  | _, [], _, _, _ => Nat.zero_le _
  | n, (k, v) :: es, h, hk, f => by
    have a := oct_vsz n v h.1 fun y hy => f y (List.mem_append_left _ hy)
    have b := octM_vsz n es h.2 (fun e he => hk e (List.mem_cons_of_mem _ he)) fun y hy => f y (List.mem_append_right _ hy)
    have k2 : k.length ≤ 200 := (hk _ (List.mem_cons_self ..)).1
    have c := len_strO (os := encs k) (Nat.le_trans (len_encs k) (by omega))
    show (strO (encs k) ++ octV v ++ octM es).length ≤ 2000 * (1 + vsz v + vszM es)
    rw [List.length_append, List.length_append]
    omega
end
theorem fst_all {ds : List Vl} (h : fstL ds = none) : ∀ x ∈ ds, lackV x = false := by
  unfold fstL at h
  rw [List.findIdx?_eq_none_iff] at h
  intro x hx
  have := h x hx
  simpa using this
/-- the places of what is lacking -/
def isLk (ds : List Vl) (k : Nat) : Bool := match ds[k]? with
  | some d => lackV d
  | none => false
def dueL (ds : List Vl) (i : Nat) : List Int := ((List.range i).filter (isLk ds)).map fun (k : Nat) => (k : Int)
theorem dueL_succ {ds : List Vl} {i : Nat} {d : Vl} (h : ds[i]? = some d) : dueL ds (i + 1) = dueL ds i ++ if lackV d then [(i : Int)] else [] := by
  unfold dueL
  have e : isLk ds i = lackV d := by
    unfold isLk
    rw [h]
  rw [List.range_succ, List.filter_append, List.map_append, List.filter_cons, e]
  cases lackV d <;> rfl
theorem dueL_none {ds : List Vl} (h : fstL ds = none) : ∀ i, i ≤ ds.length → dueL ds i = []
  | 0, _ => rfl
  | i + 1, hi => by
    have e : ds[i]? = some ds[i] := List.getElem?_eq_getElem hi
    rw [dueL_succ e, dueL_none h i (Nat.le_of_succ_le hi), fst_all h _ (List.getElem_mem hi)]
    rfl
theorem fst_at : ∀ {ds : List Vl} {i : Nat}, fstL ds = some i → (∀ j < i, ∀ x, ds[j]? = some x → lackV x = false) ∧ ∃ d, ds[i]? = some d ∧ lackV d = true
  | [], i, h => by cases h
  | d :: ds, i, h => by
    unfold fstL at h
    rw [List.findIdx?_cons] at h
    cases c : lackV d with
    | true =>
      rw [c] at h
      cases h
      exact ⟨fun j hj => absurd hj (Nat.not_lt_zero j), d, rfl, c⟩
    | false =>
      rw [c] at h
      cases q : List.findIdx? lackV ds with
      | none => rw [q] at h; cases h
      | some k =>
        rw [q] at h
        cases h
        obtain ⟨a, e, b1, b2⟩ := fst_at (ds := ds) (i := k) q
        refine ⟨fun j hj x hx => ?_, e, by simpa using b1, b2⟩
        cases j with
        | zero =>
          cases (show some d = some x from hx)
          exact c
        | succ j => exact a j (Nat.lt_of_succ_lt_succ hj) x (by simpa using hx)
theorem dueL_some {ds : List Vl} {i : Nat} (h : fstL ds = some i) : ∃ r, dueL ds ds.length = (i : Int) :: r := by
  obtain ⟨a, d, e, c⟩ := fst_at h
  have hi : i < ds.length := (List.getElem?_eq_some_iff.mp e).1
  have z : ∀ j, j ≤ i → dueL ds j = [] := fun j => by
    induction j with
    | zero => exact fun _ => rfl
    | succ j ih =>
      intro hj
      have e2 : ds[j]? = some ds[j] := List.getElem?_eq_getElem (by omega)
      rw [dueL_succ e2, ih (by omega), a j (by omega) _ e2]
      rfl
  have s : ∀ j, i < j → j ≤ ds.length → ∃ r, dueL ds j = (i : Int) :: r := fun j => by
    induction j with
    | zero => exact fun h => absurd h (Nat.not_lt_zero i)
    | succ j ih =>
      intro h1 h2
      have e2 : ds[j]? = some ds[j] := List.getElem?_eq_getElem (by omega)
      by_cases q : j = i
      · subst q
        rw [dueL_succ e, z j (Nat.le_refl j), c]
        exact ⟨[], rfl⟩
      · obtain ⟨r, hr⟩ := ih (by omega) (by omega)
        rw [dueL_succ e2, hr]
        exact ⟨r ++ _, rfl⟩
  exact s _ hi (Nat.le_refl _)
theorem dueL_len (ds : List Vl) (i : Nat) : (dueL ds i).length ≤ i := by
  unfold dueL
  rw [List.length_map]
  exact Nat.le_trans (List.length_filter_le _ _) (Nat.le_of_eq List.length_range)

/-! ### data that the law compares -/
/-- data of tuples, none of them too long -/
def Short : PyData → Prop
  | .bool _ => True
  | .int _ => True
  | .str x => PyData.canLay0 (.str x) = true
  | .tuple ds => ds.length ≤ 16777000 ∧ shortAll ds
  | _ => False
where shortAll : List PyData → Prop
  | [] => True
  | d :: ds => Short d ∧ shortAll ds
theorem short_mem : ∀ {ds : List PyData} {i : Nat} {e : PyData}, Short.shortAll ds → ds[i]? = some e → Short e
  | [], _, _, _, h => by simp at h
  | d :: ds, 0, e, hs, h => by
    cases (show some d = some e from h)
    exact hs.1
  | d :: ds, i + 1, e, hs, h => short_mem (ds := ds) (i := i) hs.2 (by simpa using h)
theorem short_ints : ∀ k : List Int, Short.shortAll (k.map PyData.int)
  | [] => trivial
  | _ :: k => ⟨trivial, short_ints k⟩
def EvS (e : Ev) : Prop := Short e.dat ∧ e.dat.depth ≤ 3
theorem sh_kd {k : List Int} (h : k.length ≤ 16777000) : Short (kd k) := ⟨by rw [List.length_map]; exact h, short_ints k⟩
theorem ev_depth_by {os : List Int} (h : os.length ≤ 300) : EvS (.lf "bytes" [kd os]) := by
  refine ⟨⟨by show 2 ≤ _; decide, (by show PyData.canLay0 (.str "leaf") = true; decide +kernel), ⟨by show 2 ≤ _; decide, (by show PyData.canLay0 (.str "bytes") = true; decide +kernel), sh_kd (by omega), trivial⟩, trivial⟩, ?_⟩
  have := depth_kd1 os
  simp [Ev.dat, PyData.depth, PyData.depthAll]
  omega
theorem ev_depth_op (m : Bool) : EvS (.op m) := by
  refine ⟨⟨by show 2 ≤ _; decide, (by show PyData.canLay0 (.str "open") = true; decide +kernel), ?_, trivial⟩, by simp [Ev.dat, PyData.depth, PyData.depthAll]⟩
  cases m
  · show PyData.canLay0 (.str "list") = true
    decide +kernel
  · show PyData.canLay0 (.str "map") = true
    decide +kernel
theorem ev_depth_cl : EvS .cl := ⟨⟨by show 1 ≤ _; decide, (by show PyData.canLay0 (.str "close") = true; decide +kernel), trivial⟩, by simp [Ev.dat, PyData.depth, PyData.depthAll]⟩

/-! ### the law's comparison of data -/

/-- v is this data, read so deep at most -/
def Ld : Nat → Hp → V → PyData → Prop
  | 0, _, _, _ => False
  | n + 1, H, v, d => match d with
    | .bool b => v = .bl b
    | .int i => v = .int i
    | .str x => v = .str x ∧ PyData.canLay0 (.str x) = true
    | .tuple ds => ∃ a xs, v = .ref a ∧ H a = some (.tup xs) ∧ xs.length = ds.length ∧ xs.length ≤ 16777000 ∧ ∀ (i : Nat) x e, xs[i]? = some x → ds[i]? = some e → Ld n H x e
    | .list ds => ∃ a xs, v = .ref a ∧ H a = some (.lst xs) ∧ xs.length = ds.length ∧ xs.length ≤ 16777000 ∧ ∀ (i : Nat) x e, xs[i]? = some x → ds[i]? = some e → Ld n H x e
    | _ => False
theorem Ld.same {H H' : Hp} (s : Same H H') : ∀ {n : Nat} {v : V} {d : PyData}, Ld n H v d → Ld n H' v d
  | 0, _, _, h => h.elim
  | n + 1, v, d, h => by
    cases d with
    | bool b => exact h
    | int i => exact h
    | str x => exact h
    | tuple ds =>
      obtain ⟨a, xs, e, h1, h2, h3, h4⟩ := h
      exact ⟨a, xs, e, s _ _ h1, h2, h3, fun i x e a b => Ld.same s (h4 i x e a b)⟩
    | list ds =>
      obtain ⟨a, xs, e, h1, h2, h3, h4⟩ := h
      exact ⟨a, xs, e, s _ _ h1, h2, h3, fun i x e a b => Ld.same s (h4 i x e a b)⟩
    | _ => exact h.elim
theorem depthAll_mem : ∀ {ds : List PyData} {i : Nat} {e : PyData}, ds[i]? = some e → e.depth ≤ PyData.depthAll ds
  | [], _, _, h => by simp at h
  | d :: ds, 0, e, h => by
    cases (show some d = some e from h)
    show _ ≤ max d.depth (PyData.depthAll ds)
    exact Nat.le_max_left _ _
  | d :: ds, i + 1, e, h => by
    have := depthAll_mem (ds := ds) (i := i) (by simpa using h)
    show _ ≤ max d.depth (PyData.depthAll ds)
    exact Nat.le_trans this (Nat.le_max_right _ _)
theorem tp_ld : ∀ {n : Nat} {H : Hp} {v : V} {d : PyData}, Tp H v d → Short d → d.depth < n → Ld n H v d
  | 0, _, _, _, _, _, h => absurd h (Nat.not_lt_zero _)
  | n + 1, H, v, d, h, hs, hd => by
    cases h with
    | non => exact hs.elim
    | bl b => rfl
    | int i => rfl
    | str x => exact ⟨rfl, hs⟩
    | tup ha hx =>
      rename_i a xs ds
      have hs : ds.length ≤ 16777000 ∧ Short.shortAll ds := hs
      have hd : PyData.depthAll ds + 1 < n + 1 := hd
      refine ⟨a, xs, rfl, ha, tpAll_len hx, by rw [tpAll_len hx]; exact hs.1, fun i x e h1 h2 => ?_⟩
      obtain ⟨e', h3, h4⟩ := tpAll_get hx h1
      rw [h2] at h3
      cases h3
      exact tp_ld h4 (short_mem hs.2 h2) (by have := depthAll_mem h2; omega)
def sp__law_same (K : Frg) (n : Nat) : Sp := sp2 fun a b H Q _ => ∃ d, Ld n H a d ∧ Ld n H b d ∧ ∀ H', Same H H' → Q (.bl true) H'
theorem no__law_same {K : Frg} {vs : List V} {H : Hp} {Q : VK} {E : XK} (h : sp__law_same K 0 vs H Q E) : False := by
  obtain ⟨_, _, rfl, d, h, _⟩ := h
  exact h
section
variable {P : Program} {w : World} {K : PySem.W.Frag} {mg : Str → Option Value} {base : Heap} {f : Addr} {fd : FuncData}
theorem ok__law_same (n : Nat) (F : FunD K "_law_same" "_law_same" (defArgs s__law_same) (defBody s__law_same) (defScope s__law_same) [] [] (glAd "_law_same" K) fd) (m : mg "_law_same" = some (.ref (glAd "_law_same" K))) (nb : Nm K mg) (c__law_same : Cal P w K mg base (1 + n) "_law_same" (sp__law_same K n) []) : Cal P w K mg base (1 + n + 1) "_law_same" (sp__law_same K (n + 1)) [] := by
  refine calD F m sc__law_same (fun _ _ _ _ _ _ us hl => match us, hl with | [_, _], _ => rfl) len2 (fun cdv A outer s H vs Q E hr h => ⟨_, (pss_cons (ps_if (PW.pt (pw_or (pt_val (pe_callB call_isi (by rfl) nb.isinstance (by decide +kernel) (pa_cons (pv 1) (pa_cons (pe_bltn (v := .ty "tuple") (u := .type "tuple") (by rfl) nb.tuple (by decide +kernel) rfl) pa_nil)))) (pw_or1 (pt_val (pe_callB call_isi (by rfl) nb.isinstance (by decide +kernel) (pa_cons (pv 1) (pa_cons (pe_bltn (v := .ty "list") (u := .type "list") (by rfl) nb.list (by decide +kernel) rfl) pa_nil)))))))
    (pss_cons (ps_if (PW.pt (pw_or (pt_cmpR op_ne (pe_callB call_isi (by rfl) nb.isinstance (by decide +kernel) (pa_cons (pv 0) (pa_cons (pe_bltn (v := .ty "tuple") (u := .type "tuple") (by rfl) nb.tuple (by decide +kernel) rfl) pa_nil))) (pe_callB call_isi (by rfl) nb.isinstance (by decide +kernel) (pa_cons (pv 1) (pa_cons (pe_bltn (v := .ty "tuple") (u := .type "tuple") (by rfl) nb.tuple (by decide +kernel) rfl) pa_nil))) (nomark _)) (pw_or1 (pt_cmpR op_ne (pe_callB call_isi (by rfl) nb.isinstance (by decide +kernel) (pa_cons (pv 0) (pa_cons (pe_bltn (v := .ty "list") (u := .type "list") (by rfl) nb.list (by decide +kernel) rfl) pa_nil))) (pe_callB call_isi (by rfl) nb.isinstance (by decide +kernel) (pa_cons (pv 1) (pa_cons (pe_bltn (v := .ty "list") (u := .type "list") (by rfl) nb.list (by decide +kernel) rfl) pa_nil))) (nomark _)))))
    (pss_one (ps_ret pe_bl))
    pss_nil)
    (pss_cons (ps_if (pt_cmpR op_ne (pe_callB call_len_seq (by rfl) nb.len PySem.boot_len (pa_cons (pv 0) pa_nil)) (pe_callB call_len_seq (by rfl) nb.len PySem.boot_len (pa_cons (pv 1) pa_nil)) (nomark _))
    (pss_one (ps_ret pe_bl))
    pss_nil)
    (pss_cons (ps_for PassesOwn.never rfl (pi_range1 rfl nb.range (pa_cons (pe_callB call_len_seq (by rfl) nb.len PySem.boot_len (pa_cons (pv 1) pa_nil)) pa_nil)) (pg_name (i := 2) sc__law_same.nd rfl (Or.inl rfl))
    (pss_one (ps_if (pt_not (pt_val (pe_c c__law_same hr (by omega) rfl (pa_cons (pe_ix ix_seq (pv 0) (pv 2) (fun _ _ => rfl)) (pa_cons (pe_ix ix_seq (pv 1) (pv 2) (fun _ _ => rfl)) pa_nil)))))
    (pss_one (ps_ret pe_bl))
    pss_nil)))
    (pss_one (ps_ret pe_bl)))))
    pss_nil)
    (pss_cons (ps_if (PW.pt (pw_or (pt_val (pe_callB call_isi (by rfl) nb.isinstance (by decide +kernel) (pa_cons (pv 0) (pa_cons (pe_bltn (v := .ty "bool") (u := .type "bool") (by rfl) nb.bool (by decide +kernel) rfl) pa_nil)))) (pw_or1 (pt_val (pe_callB call_isi (by rfl) nb.isinstance (by decide +kernel) (pa_cons (pv 1) (pa_cons (pe_bltn (v := .ty "bool") (u := .type "bool") (by rfl) nb.bool (by decide +kernel) rfl) pa_nil)))))))
    (pss_one (ps_ret (pe_and (pe_callB call_isi (by rfl) nb.isinstance (by decide +kernel) (pa_cons (pv 0) (pa_cons (pe_bltn (v := .ty "bool") (u := .type "bool") (by rfl) nb.bool (by decide +kernel) rfl) pa_nil))) (pe_and (pe_callB call_isi (by rfl) nb.isinstance (by decide +kernel) (pa_cons (pv 1) (pa_cons (pe_bltn (v := .ty "bool") (u := .type "bool") (by rfl) nb.bool (by decide +kernel) rfl) pa_nil))) (pe_one (pe_cmpR (op_eqD hr.units) (pv 0) (pv 1) (nomark _)))))))
    pss_nil)
    (pss_cons (ps_if (pt_val (pe_callB call_isi (by rfl) nb.isinstance (by decide +kernel) (pa_cons (pv 1) (pa_cons (pe_bltn (v := .ty "str") (u := .type "str") (by rfl) nb.str (by decide +kernel) rfl) pa_nil))))
    (pss_one (ps_ret (pe_and (pe_callB call_isi (by rfl) nb.isinstance (by decide +kernel) (pa_cons (pv 0) (pa_cons (pe_bltn (v := .ty "str") (u := .type "str") (by rfl) nb.str (by decide +kernel) rfl) pa_nil))) (pe_one (pe_cmpR (op_eqD hr.units) (pv 0) (pv 1) (nomark _))))))
    pss_nil)
    (pss_one (ps_ret (pe_and (pe_callB call_isi (by rfl) nb.isinstance (by decide +kernel) (pa_cons (pv 0) (pa_cons (pe_bltn (v := .ty "int") (u := .type "int") (by rfl) nb.int (by decide +kernel) rfl) pa_nil))) (pe_one (pe_cmpR (op_eqD hr.units) (pv 0) (pv 1) (nomark _))))))))), ?_⟩)
  obtain ⟨a, b, rfl, d, ha, hb, hQ⟩ := h
  cases d with
  | bool x =>
    have ha : a = .bl x := ha
    have hb : b = .bl x := hb
    subst ha hb
    walk_at "rf"
    refine r_isi (b := false) (.base (.bl x)) (by decide +kernel) ?_
    walk_at "rf"
    refine r_isi (b := false) (.base (.bl x)) (by decide +kernel) ?_
    walk_at "rf"
    refine r_isi (b := true) (.base (.bl x)) (by decide +kernel) ?_
    walk_at "rf"
    refine r_isi (b := true) (.base (.bl x)) (by decide +kernel) ?_
    walk_at "rf"
    refine r_isi (b := true) (.base (.bl x)) (by decide +kernel) ?_
    walk_at "rf"
    refine r_eqDs (d := .bool x) (.bl x) (.bl x) (by cases x <;> rfl) ?_
    exact hQ H (Same.refl H)
  | int x =>
    have ha : a = .int x := ha
    have hb : b = .int x := hb
    subst ha hb
    walk_at "rf"
    refine r_isi (b := false) (.base (.int x)) (by decide +kernel) ?_
    walk_at "rf"
    refine r_isi (b := false) (.base (.int x)) (by decide +kernel) ?_
    walk_at "rf"
    refine r_isi (b := false) (.base (.int x)) (by decide +kernel) ?_
    walk_at "rf"
    refine r_isi (b := false) (.base (.int x)) (by decide +kernel) ?_
    walk_at "rf"
    refine r_isi (b := false) (.base (.int x)) (by decide +kernel) ?_
    walk_at "rf"
    refine r_isi (b := true) (.base (.int x)) (by decide +kernel) ?_
    walk_at "rf"
    refine r_eqDs (d := .int x) (.int x) (.int x) (by rfl) ?_
    exact hQ H (Same.refl H)
  | str x =>
    obtain ⟨ha, hx⟩ : a = .str x ∧ _ := ha
    have hb : b = .str x := hb.1
    subst ha hb
    walk_at "rf"
    refine r_isi (b := false) (.base (.str x)) (by decide +kernel) ?_
    walk_at "rf"
    refine r_isi (b := false) (.base (.str x)) (by decide +kernel) ?_
    walk_at "rf"
    refine r_isi (b := false) (.base (.str x)) (by decide +kernel) ?_
    walk_at "rf"
    refine r_isi (b := false) (.base (.str x)) (by decide +kernel) ?_
    walk_at "rf"
    refine r_isi (b := true) (.base (.str x)) (by decide +kernel) ?_
    walk_at "rf"
    refine r_isi (b := true) (.base (.str x)) (by decide +kernel) ?_
    walk_at "rf"
    refine r_eqDs (d := .str x) (.str x) (.str x) (by unfold SeqAt.shaped; rw [hx]; rfl) ?_
    exact hQ H (Same.refl H)
  | tuple ds =>
    obtain ⟨p, xs, rfl, hp, lp, sp, ep⟩ := ha
    obtain ⟨q, ys, rfl, hq, lq, sq, eq⟩ := hb
    walk_at "rf"
    refine r_isi (b := true) (.base (.tup hq)) (by decide +kernel) ?_
    walk_at "rf"
    refine r_isi (b := true) (.base (.tup hp)) (by decide +kernel) ?_
    walk_at "rf"
    refine r_isi (b := true) (.base (.tup hq)) (by decide +kernel) ?_
    walk_at "rf"
    refine r_neB ?_
    walk_at "rf"
    refine r_no (show (true : Bool) = true from rfl) ?_
    walk_at "rf"
    refine r_isi (b := false) (.base (.tup hp)) (by decide +kernel) ?_
    walk_at "rf"
    refine r_isi (b := false) (.base (.tup hq)) (by decide +kernel) ?_
    walk_at "rf"
    refine r_neB ?_
    walk_at "rf"
    refine r_no (show (false : Bool) = false from rfl) ?_
    walk_at "rf"
    refine ⟨p, _, rfl, .inr (SqT.of hp), ?_⟩
    walk_at "rf"
    refine ⟨q, _, rfl, .inr (SqT.of hq), ?_⟩
    walk_at "rf"
    refine r_no (by omega) ?_
    walk_at "rf"
    refine ⟨q, _, rfl, .inr (SqT.of hq), ?_⟩
    walk_at "rf"
    refine r_turns (by omega) (by omega) (fun i σ H' => Same H H' ∧ ∃ y : Option V, σ = [some (.ref p), some (.ref q), y]) ⟨Same.refl H, none, rfl⟩ ?_ ?_
    · rintro i σ H2 hi ⟨s2, y, rfl⟩
      have hi1 : i < xs.length := by omega
      have hi2 : i < ys.length := by omega
      have hi3 : i < ds.length := by omega
      walk_at "rf"
      refine .inr (.inl (r_ixT (SqT.of (s2 _ _ hp)) (atI_nat (List.getElem?_eq_getElem hi1)) ?_))
      walk_at "rf"
      refine .inr (.inl (r_ixT (SqT.of (s2 _ _ hq)) (atI_nat (List.getElem?_eq_getElem hi2)) ?_))
      walk_at "rf"
      refine ⟨_, _, rfl, ds[i], (ep i _ _ (List.getElem?_eq_getElem hi1) (List.getElem?_eq_getElem hi3)).same s2, (eq i _ _ (List.getElem?_eq_getElem hi2) (List.getElem?_eq_getElem hi3)).same s2, fun H3 s3 => ⟨true, rfl, ?_⟩⟩
      walk_at "rf"
      exact ⟨s2.trans s3, _, rfl⟩
    · rintro σ H2 ⟨s2, y, rfl⟩
      walk_at "rf"
      exact hQ H2 s2
  | list ds =>
    obtain ⟨p, xs, rfl, hp, lp, sp, ep⟩ := ha
    obtain ⟨q, ys, rfl, hq, lq, sq, eq⟩ := hb
    walk_at "rf"
    refine r_isi (b := false) (.base (.lst hq)) (by decide +kernel) ?_
    walk_at "rf"
    refine r_isi (b := true) (.base (.lst hq)) (by decide +kernel) ?_
    walk_at "rf"
    refine r_isi (b := false) (.base (.lst hp)) (by decide +kernel) ?_
    walk_at "rf"
    refine r_isi (b := false) (.base (.lst hq)) (by decide +kernel) ?_
    walk_at "rf"
    refine r_neB ?_
    walk_at "rf"
    refine r_no (show (false : Bool) = false from rfl) ?_
    walk_at "rf"
    refine r_isi (b := true) (.base (.lst hp)) (by decide +kernel) ?_
    walk_at "rf"
    refine r_isi (b := true) (.base (.lst hq)) (by decide +kernel) ?_
    walk_at "rf"
    refine r_neB ?_
    walk_at "rf"
    refine r_no (show (true : Bool) = true from rfl) ?_
    walk_at "rf"
    refine ⟨p, _, rfl, .inl (SqL.of hp), ?_⟩
    walk_at "rf"
    refine ⟨q, _, rfl, .inl (SqL.of hq), ?_⟩
    walk_at "rf"
    refine r_no (by omega) ?_
    walk_at "rf"
    refine ⟨q, _, rfl, .inl (SqL.of hq), ?_⟩
    walk_at "rf"
    refine r_turns (by omega) (by omega) (fun i σ H' => Same H H' ∧ ∃ y : Option V, σ = [some (.ref p), some (.ref q), y]) ⟨Same.refl H, none, rfl⟩ ?_ ?_
    · rintro i σ H2 hi ⟨s2, y, rfl⟩
      have hi1 : i < xs.length := by omega
      have hi2 : i < ys.length := by omega
      have hi3 : i < ds.length := by omega
      walk_at "rf"
      refine .inl (r_ixL (SqL.of (s2 _ _ hp)) (atI_nat (List.getElem?_eq_getElem hi1)) ?_)
      walk_at "rf"
      refine .inl (r_ixL (SqL.of (s2 _ _ hq)) (atI_nat (List.getElem?_eq_getElem hi2)) ?_)
      walk_at "rf"
      refine ⟨_, _, rfl, ds[i], (ep i _ _ (List.getElem?_eq_getElem hi1) (List.getElem?_eq_getElem hi3)).same s2, (eq i _ _ (List.getElem?_eq_getElem hi2) (List.getElem?_eq_getElem hi3)).same s2, fun H3 s3 => ⟨true, rfl, ?_⟩⟩
      walk_at "rf"
      exact ⟨s2.trans s3, _, rfl⟩
    · rintro σ H2 ⟨s2, y, rfl⟩
      walk_at "rf"
      exact hQ H2 s2
  | _ => exact ha.elim
theorem rec__law_same (F : FunD K "_law_same" "_law_same" (defArgs s__law_same) (defBody s__law_same) (defScope s__law_same) [] [] (glAd "_law_same" K) fd) (m : mg "_law_same" = some (.ref (glAd "_law_same" K))) (nb : Nm K mg) : ∀ n, Cal P w K mg base (1 + n) "_law_same" (sp__law_same K n) []
  | 0 => calD (k := 0) F m sc__law_same (fun _ _ _ _ _ _ us hl => match us, hl with | [_, _], _ => rfl) (fun _ _ _ _ h => (no__law_same h).elim) (fun _ _ _ _ _ _ _ _ _ h => (no__law_same h).elim)
  | n + 1 => ok__law_same n F m nb (rec__law_same F m nb n)
end

/-! ### the law -/

theorem ld_lacks {H : Hp} {T : Addr} {m : Int} {n : Nat} (h : H T = some (.tup [.str "lacks", .int m])) : Ld (n + 2) H (.ref T) (.tuple [.str "lacks", .int m]) := by
  refine ⟨T, _, rfl, h, rfl, by show 2 ≤ _; decide, fun i y e h1 h2 => ?_⟩
  match i, h1, h2 with
  | 0, h1, h2 =>
    cases h1
    cases h2
    exact ⟨rfl, by show PyData.canLay0 (.str "lacks") = true; decide +kernel⟩
  | 1, h1, h2 =>
    cases h1
    cases h2
    rfl
  | i + 2, h1, _ => simp at h1
theorem ld_intL {H : Hp} {p : Addr} {ns : List Int} {n : Nat} (h : H p = some (.lst (ns.map V.int))) (hl : ns.length ≤ 16777000) : Ld (n + 2) H (.ref p) (.list (ns.map PyData.int)) := by
  refine ⟨p, _, rfl, h, by rw [List.length_map, List.length_map], by rw [List.length_map]; exact hl, fun i y e h1 h2 => ?_⟩
  rw [List.getElem?_map] at h1 h2
  cases q : ns[i]? with
  | none => rw [q] at h1; cases h1
  | some k =>
    rw [q] at h1 h2
    cases h1
    cases h2
    rfl
section
variable {P : Program} {w : World} {K : PySem.W.Frag} {mg : Str → Option Value} {base : Heap} {f : Addr} {fd : FuncData}
theorem ok_law (F : FunD K "law" "law" (defArgs s_law) (defBody s_law) (defScope s_law) [] [] (glAd "law" K) fd) (nb : Nm K mg) (c_bencode_lacks : Cal P w K mg base 6 "bencode_lacks" (sp_bencode_lacks K) []) (c__law_cell : Cal P w K mg base 1 "_law_cell" (sp__law_cell K) []) (c__law_state : Cal P w K mg base 2 "_law_state" (sp__law_state K) []) (c__law_next : Cal P w K mg base 1 "_law_next" (sp__law_next K) []) (c__law_value : Cal P w K mg base 10 "_law_value" (sp__law_value K 5) []) (c__law_towered : Cal P w K mg base 2 "_law_towered" (sp__law_towered K) []) (c__law_walk : Cal P w K mg base 27 "_law_walk" (sp__law_walk K 26) []) (c__law_same : Cal P w K mg base 6 "_law_same" (sp__law_same K 5) []) (c__law_written : Cal P w K mg base 30 "_law_written" (sp__law_written K 26) []) (c__law_lacks : Cal P w K mg base 1 "_law_lacks" (sp__law_lacks K) []) (c__law_kinds : Cal P w K mg base 2 "_law_kinds" (sp__law_kinds K) []) (c__law_told : Cal P w K mg base 32 "_law_told" (sp__law_told K) []) : FnOk P w K mg base CX0 33 (glAd "law" K) fd ["script"] (sp_law K) := by
  refine fnD F sc_law len1 (fun cdv A outer s H vs Q E hr h => ⟨_, (pss_cons (ps_set (i := 1) sc_law.nd rfl (Or.inl rfl) (pe_c c__law_state hr (by decide) rfl (pa_cons (pv 0) (pa_cons (pe_op op_add pe_int (pe_op op_mod (pe_callTy call_int1 (by rfl) nb.int (by decide +kernel) (pa_cons (pe_callB call_abs (by rfl) nb.abs (by decide +kernel) (pa_cons (pe_c c__law_cell hr (by decide) rfl (pa_cons (pv 0) (pa_cons pe_int pa_nil))) pa_nil)) pa_nil)) pe_int)) pa_nil))))
    (pss_cons (ps_set (i := 2) sc_law.nd rfl (Or.inl rfl) (pe_lstE (pa_cons pe_str (pa_cons pe_str pa_nil))))
    (pss_cut (ps_if (pt_cmpR op_eq (pe_c c__law_next hr (by decide) rfl (pa_cons (pv 1) (pa_cons pe_int pa_nil))) pe_int (nomark _))
    (pss_one (ps_set (i := 2) sc_law.nd rfl (Or.inl rfl) (pe_c c__law_kinds hr (by decide) rfl (pa_cons (pv 1) pa_nil))))
    pss_nil)
    (pss_cons (ps_set (i := 3) sc_law.nd rfl (Or.inl rfl) (pe_c c__law_towered hr (by decide) rfl (pa_cons (pv 1) (pa_cons (pe_c c__law_value hr (by decide) rfl (pa_cons (pv 1) (pa_cons pe_int (pa_cons (pv 2) (pa_cons pe_bl pa_nil))))) (pa_cons pe_bl pa_nil)))))
    (pss_cons (ps_set (i := 4) sc_law.nd rfl (Or.inr rfl) (pe_c c__law_walk hr (by decide) rfl (pa_cons (pv 3) pa_nil)))
    (pss_cons (ps_setLc (i := 5) (own := [("k", 9)]) (g := gName 9) rfl sc_law.nd rfl rfl (sw_true rfl rfl rfl (by decide +kernel)) (pi_range1 rfl nb.range (pa_cons (pe_callB call_len_seq (by rfl) nb.len PySem.boot_len (pa_cons (pv 4) pa_nil)) pa_nil)) (blkOk_by (N := ["script", "state", "kinds", "value", "rows", "due", "index", "written", "told", "k"]) (sc := defScope s_law) (by decide +kernel)) (fun _ _ _ _ _ => pg_name (i := 9) sc_law.nd rfl (Or.inl rfl)) (fun _ _ _ _ _ => (pts_one (pt_val (pe_c c__law_lacks hr (by decide) rfl (pa_cons (pe_ix (show IxR _ (rIxL K) from ix_list) (pv 4) (pv 9) (fun _ _ => rfl)) pa_nil))))) (fun _ _ _ _ _ => (pv 9)))
    (pss_cons (ps_set (i := 6) sc_law.nd rfl (Or.inl rfl) (pe_c c_bencode_lacks hr (by decide) rfl (pa_cons (pv 3) pa_nil)))
    (pss_cons (ps_if (pt_cmpR (op_neD hr.units) (pv 5) (pe_lstE pa_nil) (nomark _))
    (pss_one (ps_ret (pe_and (pe_c c__law_same hr (by decide) rfl (pa_cons (pv 6) (pa_cons (pe_ix ix_list (pv 5) pe_int (fun _ _ => rfl)) pa_nil))) (pe_one (pe_c c__law_same hr (by decide) rfl (pa_cons (pe_c c__law_told hr (by decide) rfl (pa_cons (pv 3) pa_nil)) (pa_cons (pe_tupE (pa_cons pe_str (pa_cons (pe_ix ix_list (pv 5) pe_int (fun _ _ => rfl)) pa_nil))) pa_nil)))))))
    pss_nil)
    (pss_cons (ps_set (i := 7) sc_law.nd rfl (Or.inl rfl) (pe_c c__law_written hr (by decide) rfl (pa_cons (pv 3) pa_nil)))
    (pss_cons (ps_set (i := 8) sc_law.nd rfl (Or.inl rfl) (pe_c c__law_told hr (by decide) rfl (pa_cons (pv 3) pa_nil)))
    (pss_cons (ps_if (PW.pt (pw_or (pt_cmpR op_notN (pv 6) pe_non (nomark _)) (pw_or1 (pt_not (pt_val (pe_c c__law_same hr (by decide) rfl (pa_cons (pv 8) (pa_cons (pv 7) pa_nil))))))))
    (pss_one (ps_ret pe_bl))
    pss_nil)
    (pss_cons (ps_expr (pe_bm PySem.F.plainAttrs_list PySem.F.slot_list_append PySem.F.type_list_append mt_append (pv 8) (pa_cons pe_int pa_nil)))
    (pss_one (ps_ret (pe_c c__law_same hr (by decide) rfl (pa_cons (pe_c c__law_told hr (by decide) rfl (pa_cons (pv 3) pa_nil)) (pa_cons (pv 7) pa_nil))))))))))))))))), ?_⟩)
  obtain ⟨_, rfl, sl, ns, rfl, hs, h⟩ := h
  -- 0:script 1:state 2:kinds 3:value 4:rows 5:due 6:index 7:written 8:told 9:k
  walk_at "rf"
  refine ⟨_, _, rfl, sl, ns, 0, rfl, rfl, hs, by decide, fun z => ?_⟩
  walk_at "rf"
  refine ⟨_, _, rfl, sl, ns, 8 + (z.natAbs : Int) % 30, rfl, by congr 2; split <;> omega, hs, fun S H1 eS1 eS2 L1 s1 nS => ?_⟩
  walk_at "rf"
  refine ⟨by show 2 ≤ sizeLine; decide, fun p2 H2 n2 g2 s2 => ?_⟩
  have g2 : H2 p2 = some (.lst ((["number", "bytes"] : List Str).map V.str)) := g2
  have L2 := L1.same s2
  walk_at "rf"
  refine r_cut (fun σ H' => LB K S (8 + (z.natAbs : Int) % 30) H' ∧ Keep S H1 H' ∧ ∃ (kl : Addr) (ks : List Str), KsOk ks ∧ kl ≠ S.a ∧ H' kl = some (.lst (ks.map V.str)) ∧ σ = [some (.ref sl), some (.ref S.a), some (.ref kl), none, none, none, none, none, none, none]) ?_ ?_
  · walk_at "rf"
    refine b_next L2 (by decide) fun r3 H3 a3 b3 L3 k3 => ?_
    have k23 := (Keep.of s2).trans k3
    walk_at "rf"
    refine r_ite (fun c => ?_) (fun c => ?_)
    · walk_at "rf"
      refine ⟨_, rfl, S, _, rfl, L3, fun q ks H4 ko nq g4 L4 k4 => ?_⟩
      walk_at "rf"
      exact ⟨L4, k23.trans k4, q, ks, ko, nq, g4, rfl⟩
    · walk_at "rf"
      have np2 := L1.ne_free n2
      exact ⟨L3, k23, p2, ["number", "bytes"], ⟨by show 0 < 2; decide, by show 2 ≤ 100; decide, fun k hk => by
        simp only [List.mem_cons, List.not_mem_nil, or_false] at hk
        rcases hk with e | e <;> rw [e] <;> simp⟩, np2, k3 _ _ np2 g2, rfl⟩
  clear L2 g2 s2 n2
  rintro σ H9 ⟨L9, k5, kl, ks, ko, nkl, g9, rfl⟩
  walk_at "rf"
  refine ⟨_, _, _, _, rfl, S, _, 4, kl, _, true, rfl, rfl, rfl, rfl, nkl, g9, ko, by decide, L9, fun v t l3 H10 gf bud tp L10 k10 => ?_⟩
  walk_at "rf"
  refine ⟨_, _, _, rfl, S, _, t, true, rfl, rfl, L10, tp, gf, fun v4 t4 n4 H11 hn4 gf4 sz4 tp4 L11 k11 => ?_⟩
  have vs4 : vsz t4 ≤ 4000 := by
    unfold Bud at bud
    omega
  obtain ⟨wd, lv⟩ := gf_wd n4 t4 gf4
  have tv : TpV H11 v4 t4 := ⟨tp4, wd⟩
  have nu : NumAll t4 := gf_num n4 t4 gf4
  have pl : (preV t4).length ≤ 4000 := Nat.le_trans (pre_vsz t4) vs4
  have sfo : fstL (preV t4) = none → t4.gf n4 ∧ Full t4 ∧ (octV t4).length ≤ 16000000 := fun e => by
    have q : Full t4 := fst_all e
    exact ⟨gf4, q, Nat.le_trans (oct_vsz n4 t4 gf4 q) (by omega)⟩
  clear k5 g9 L9 ko nkl bud tp L10 k10 L11 k11 gf
  walk_at "rf"
  refine ⟨_, rfl, t4, n4, tv, lv, by omega, by omega, fun pR ws H12 nR gR pw s12 => ?_⟩
  walk_at "rf"
  refine ⟨pR, ws, rfl, .inl (SqL.of gR), ?_⟩
  walk_at "rf"
  have wl := Paired.length pw
  refine ⟨by omega, by omega, fun D nD => lc_range (fun i H' => Same H12 H' ∧ H' D = some (.lst ((dueL (preV t4) i).map V.int))) ⟨same_upd nD _, upd_same⟩ ?_ ?_⟩
  · rintro i H' hi ⟨s3, gD⟩
    have hi : i < (preV t4).length := by omega
    obtain ⟨x, hx⟩ : ∃ x, ws[i]? = some x := ⟨_, List.getElem?_eq_getElem (by omega)⟩
    obtain ⟨e, he, te⟩ := paired_get pw hx
    obtain ⟨b, xs, rfl, hb, hxs⟩ := tpV_kind te
    have lge := gf_lgs n4 t4 gf4 e (List.mem_of_getElem? he)
    rw [Int.zero_add]
    walk_at "rf"
    refine ⟨rfl, ?_⟩
    walk_at "rf"
    refine r_ixL (SqL.of (s3 _ _ gR)) (atI_nat hx) ?_
    walk_at "rf"
    refine ⟨_, rfl, b, kindV e, xs, restV e, rfl, s3 _ _ hb, TpAll.tk (Same.tk s3) _ _ hxs, lge, fun H4 s4 => ?_⟩
    have gD4 := s4 _ _ gD
    have dl : (dueL (preV t4) i).length ≤ i := dueL_len _ _
    cases c : lackK (kindV e) (restV e) with
    | true =>
      walk_at "rf"
      refine ⟨_, gD4, ?_, same_on (s3.trans s4) nD (fun c o n e => (upd_ne n).trans e), ?_⟩
      · rw [List.length_map]
        exact Nat.lt_of_le_of_lt (show _ ≤ 4000 by omega) (by decide)
      · rw [upd_same, dueL_succ he, show lackV e = true from c, List.map_append]
        rfl
    | false =>
      walk_at "rf"
      refine ⟨s3.trans s4, ?_⟩
      rw [dueL_succ he, show lackV e = false from c]
      rw [if_neg Bool.false_ne_true, List.append_nil]
      exact gD4
  · rintro H13 ⟨s3, gD⟩
    rw [show (ws.length : Int).toNat = (preV t4).length by omega] at gD
    walk_at "rf"
    have tv13 := tv.tk (Same.tk (s12.trans s3))
    refine ⟨_, rfl, t4, tv13, nu, Nat.le_trans pl (by decide), fun H14 s14 => ?_⟩
    have gD14 := s14 _ _ gD
    have tv14 := tv13.tk (Same.tk s14)
    walk_at "rf"
    refine ⟨by show 0 ≤ sizeLine; decide, fun q5 H15 n5 g5 s15 => ?_⟩
    have gD15 := s15 _ _ gD14
    have tv15 := tv14.tk (Same.tk s15)
    cases e : fstL (preV t4) with
    | some i =>
      obtain ⟨r, er⟩ := dueL_some e
      rw [er] at gD15
      refine r_neIL (b := []) (SqL.of gD15) (SqL.of g5) ?_
      rw [show (!decide ((i : Int) :: r = [])) = true from rfl]
      walk_at "rf"
      refine r_ixL (SqL.of gD15) (atI_nat (j := 0) rfl) ?_
      walk_at "rf"
      refine ⟨_, _, rfl, .int (i : Nat), rfl, rfl, fun H16 s16 => ?_⟩
      have gD16 := s16 _ _ gD15
      walk_at "rf"
      refine ⟨_, rfl, t4, n4, ⟨tv15.tk (Same.tk s16), nu, Nat.le_trans pl (by decide), fun e2 => by rw [e] at e2; cases e2⟩, fun i2 e2 T H17 gT s17 => ?_⟩
      rw [e] at e2
      cases e2
      walk_at "rf"
      refine r_ixL (SqL.of (s17 _ _ gD16)) (atI_nat (j := 0) rfl) ?_
      walk_at "rf"
      refine ⟨by show 2 ≤ sizeLine; decide, fun T2 H18 nT2 gT2 s18 => ?_⟩
      exact ⟨_, _, rfl, _, ld_lacks (s18 _ _ gT), ld_lacks gT2, fun H19 _ => h _⟩
    | none =>
      have er := dueL_none e _ (Nat.le_refl _)
      rw [er] at gD15
      refine r_neIL (b := []) (SqL.of gD15) (SqL.of g5) ?_
      rw [show (!decide (([] : List Int) = [])) = false from rfl]
      walk_at "rf"
      obtain ⟨sf, fu, ol⟩ := sfo e
      refine ⟨_, rfl, t4, n4, tv15.1, sf, fu, by omega, ol, fun w1 H16 n16 g16 s16 => ?_⟩
      have tv16 := tv15.tk (Same.tk s16)
      walk_at "rf"
      refine ⟨_, rfl, t4, n4, ⟨tv16, nu, Nat.le_trans pl (by decide), fun _ => ⟨sf, fu, by omega, ol, fun w2 H17 n17 g17 s17 => ?_⟩⟩, fun i2 e2 => by rw [e] at e2; cases e2⟩
      have tv17 := tv16.tk (Same.tk s17)
      have hne : w1 ≠ w2 := fun z => by rw [z, n17] at g16; cases g16
      have g16 := s17 _ _ g16
      have ol2 : (octV t4).length ≤ 16777000 := Nat.le_trans ol (by decide)
      walk_at "rf"
      rw [show (!decide (optV none = V.non)) = false from rfl]
      walk_at "rf"
      refine ⟨_, _, rfl, _, ld_intL g17 ol2, ld_intL g16 ol2, fun H18 s18 => ?_⟩
      walk_at "rf"
      have g17 := s18 _ _ g17
      have g16 := s18 _ _ g16
      have tv18 := tv17.tk (Same.tk s18)
      refine ⟨tyL g17, ?_⟩
      walk_at "rf"
      refine r_appE g17 (by rw [List.length_map]; exact Nat.lt_of_le_of_lt ol (by decide)) fun H19 g19 k19 => ?_
      have tv19 := tv18.tk (Eb.tk k19)
      have g19 := (k19.1 w1 hne).trans g16
      walk_at "rf"
      refine ⟨_, rfl, t4, n4, ⟨tv19, nu, Nat.le_trans pl (by decide), fun _ => ⟨sf, fu, by omega, ol, fun w3 H20 n20 g20 s20 => ?_⟩⟩, fun i2 e2 => by rw [e] at e2; cases e2⟩
      have g19 := s20 _ _ g19
      walk_at "rf"
      exact ⟨_, _, rfl, _, ld_intL g20 ol2, ld_intL g19 ol2, fun H21 _ => h _⟩
end

theorem facts {P : Program} {w : World} {K : PySem.W.Frag} {h : Heap} {mg : Str → Option Value} {f : Addr} (X : K.In h) (G : h.Ns mainGlobals mg) (hfa : mg ("law" : Str) = some (.ref f)) (c : SaysM fa ex fn K) :
    ∃ fd : FuncData, (∀ (s : Shared) (v : Value), BindsTo s fd ⟨[v], []⟩ [("script", v)]) ∧ ∀ base : Heap, K.In base → base.Ns mainGlobals mg → FnOk P w K mg base CX0 33 f fd ["script"] (sp_law K) := by
  obtain ⟨fd_is_lacking, F_is_lacking⟩ := c.def_ 0 (d := d_is_lacking) rfl
  obtain ⟨fd_parts, F_parts⟩ := c.def_ 1 (d := d_parts) rfl
  obtain ⟨fd_walk, F_walk⟩ := c.def_ 2 (d := d_walk) rfl
  obtain ⟨fd_first_lacking, F_first_lacking⟩ := c.def_ 3 (d := d_first_lacking) rfl
  obtain ⟨fd_bencode_lacks, F_bencode_lacks⟩ := c.def_ 4 (d := d_bencode_lacks) rfl
  obtain ⟨fd__law_cell, F__law_cell⟩ := c.def_ 5 (d := d__law_cell) rfl
  obtain ⟨fd__law_numbers, F__law_numbers⟩ := c.def_ 6 (d := d__law_numbers) rfl
  obtain ⟨fd__law_state, F__law_state⟩ := c.def_ 7 (d := d__law_state) rfl
  obtain ⟨fd__law_next, F__law_next⟩ := c.def_ 8 (d := d__law_next) rfl
  obtain ⟨fd__law_many, F__law_many⟩ := c.def_ 9 (d := d__law_many) rfl
  obtain ⟨fd__law_points, F__law_points⟩ := c.def_ 10 (d := d__law_points) rfl
  obtain ⟨fd__law_big, F__law_big⟩ := c.def_ 11 (d := d__law_big) rfl
  obtain ⟨fd__law_normal, F__law_normal⟩ := c.def_ 12 (d := d__law_normal) rfl
  obtain ⟨fd__law_number, F__law_number⟩ := c.def_ 13 (d := d__law_number) rfl
  obtain ⟨fd__law_octets, F__law_octets⟩ := c.def_ 14 (d := d__law_octets) rfl
  obtain ⟨fd__law_leaf, F__law_leaf⟩ := c.def_ 15 (d := d__law_leaf) rfl
  obtain ⟨fd__law_value, F__law_value⟩ := c.def_ 16 (d := d__law_value) rfl
  obtain ⟨fd__law_towered, F__law_towered⟩ := c.def_ 17 (d := d__law_towered) rfl
  obtain ⟨fd__law_walk, F__law_walk⟩ := c.def_ 18 (d := d__law_walk) rfl
  obtain ⟨fd__law_same, F__law_same⟩ := c.def_ 19 (d := d__law_same) rfl
  obtain ⟨fd__law_utf8, F__law_utf8⟩ := c.def_ 20 (d := d__law_utf8) rfl
  obtain ⟨fd__law_ascii, F__law_ascii⟩ := c.def_ 21 (d := d__law_ascii) rfl
  obtain ⟨fd__law_string, F__law_string⟩ := c.def_ 22 (d := d__law_string) rfl
  obtain ⟨fd__law_leaf_written, F__law_leaf_written⟩ := c.def_ 23 (d := d__law_leaf_written) rfl
  obtain ⟨fd__law_written, F__law_written⟩ := c.def_ 24 (d := d__law_written) rfl
  obtain ⟨fd__law_lacks, F__law_lacks⟩ := c.def_ 25 (d := d__law_lacks) rfl
  obtain ⟨fd__law_kinds, F__law_kinds⟩ := c.def_ 26 (d := d__law_kinds) rfl
  obtain ⟨fd_AlikeError___init__, F_AlikeError___init__⟩ := c.def_ 27 (d := d_AlikeError___init__) rfl
  obtain ⟨fd_check_writable, F_check_writable⟩ := c.def_ 28 (d := d_check_writable) rfl
  obtain ⟨fd_power, F_power⟩ := c.def_ 29 (d := d_power) rfl
  obtain ⟨fd_whole, F_whole⟩ := c.def_ 30 (d := d_whole) rfl
  obtain ⟨fd_digits_of, F_digits_of⟩ := c.def_ 31 (d := d_digits_of) rfl
  obtain ⟨fd_signed_digits, F_signed_digits⟩ := c.def_ 32 (d := d_signed_digits) rfl
  obtain ⟨fd_in_ascii, F_in_ascii⟩ := c.def_ 33 (d := d_in_ascii) rfl
  obtain ⟨fd_with_count, F_with_count⟩ := c.def_ 34 (d := d_with_count) rfl
  obtain ⟨fd_leaf_octets, F_leaf_octets⟩ := c.def_ 35 (d := d_leaf_octets) rfl
  obtain ⟨fd__encode_long, F__encode_long⟩ := c.def_ 36 (d := d__encode_long) rfl
  obtain ⟨fd_encode, F_encode⟩ := c.def_ 37 (d := d_encode) rfl
  obtain ⟨fd_key_octets, F_key_octets⟩ := c.def_ 38 (d := d_key_octets) rfl
  obtain ⟨fd__octets_of, F__octets_of⟩ := c.def_ 39 (d := d__octets_of) rfl
  obtain ⟨fd_write_bencode, F_write_bencode⟩ := c.def_ 40 (d := d_write_bencode) rfl
  obtain ⟨fd__law_told, F__law_told⟩ := c.def_ 41 (d := d__law_told) rfl
  obtain ⟨fd_law, F_law⟩ := c.def_ 42 (d := d_law) rfl
  have m_is_lacking := He.glo_ok X G (x := "is_lacking") (c.fact 0 rfl)
  have m_parts := He.glo_ok X G (x := "parts") (c.fact 1 rfl)
  have m_walk := He.glo_ok X G (x := "walk") (c.fact 2 rfl)
  have m_first_lacking := He.glo_ok X G (x := "first_lacking") (c.fact 3 rfl)
  have m_bencode_lacks := He.glo_ok X G (x := "bencode_lacks") (c.fact 4 rfl)
  have m__law_cell := He.glo_ok X G (x := "_law_cell") (c.fact 5 rfl)
  have m__law_numbers := He.glo_ok X G (x := "_law_numbers") (c.fact 6 rfl)
  have m__law_state := He.glo_ok X G (x := "_law_state") (c.fact 7 rfl)
  have m__law_next := He.glo_ok X G (x := "_law_next") (c.fact 8 rfl)
  have m__law_many := He.glo_ok X G (x := "_law_many") (c.fact 9 rfl)
  have m__law_points := He.glo_ok X G (x := "_law_points") (c.fact 10 rfl)
  have m__law_big := He.glo_ok X G (x := "_law_big") (c.fact 11 rfl)
  have m__law_normal := He.glo_ok X G (x := "_law_normal") (c.fact 12 rfl)
  have m__law_number := He.glo_ok X G (x := "_law_number") (c.fact 13 rfl)
  have m__law_octets := He.glo_ok X G (x := "_law_octets") (c.fact 14 rfl)
  have m__law_leaf := He.glo_ok X G (x := "_law_leaf") (c.fact 15 rfl)
  have m__law_value := He.glo_ok X G (x := "_law_value") (c.fact 16 rfl)
  have m__law_towered := He.glo_ok X G (x := "_law_towered") (c.fact 17 rfl)
  have m__law_walk := He.glo_ok X G (x := "_law_walk") (c.fact 18 rfl)
  have m__law_same := He.glo_ok X G (x := "_law_same") (c.fact 19 rfl)
  have m__law_utf8 := He.glo_ok X G (x := "_law_utf8") (c.fact 20 rfl)
  have m__law_ascii := He.glo_ok X G (x := "_law_ascii") (c.fact 21 rfl)
  have m__law_string := He.glo_ok X G (x := "_law_string") (c.fact 22 rfl)
  have m__law_leaf_written := He.glo_ok X G (x := "_law_leaf_written") (c.fact 23 rfl)
  have m__law_written := He.glo_ok X G (x := "_law_written") (c.fact 24 rfl)
  have m__law_lacks := He.glo_ok X G (x := "_law_lacks") (c.fact 25 rfl)
  have m__law_kinds := He.glo_ok X G (x := "_law_kinds") (c.fact 26 rfl)
  have m_check_writable := He.glo_ok X G (x := "check_writable") (c.fact 27 rfl)
  have m_power := He.glo_ok X G (x := "power") (c.fact 28 rfl)
  have m_whole := He.glo_ok X G (x := "whole") (c.fact 29 rfl)
  have m_digits_of := He.glo_ok X G (x := "digits_of") (c.fact 30 rfl)
  have m_signed_digits := He.glo_ok X G (x := "signed_digits") (c.fact 31 rfl)
  have m_in_ascii := He.glo_ok X G (x := "in_ascii") (c.fact 32 rfl)
  have m_with_count := He.glo_ok X G (x := "with_count") (c.fact 33 rfl)
  have m_leaf_octets := He.glo_ok X G (x := "leaf_octets") (c.fact 34 rfl)
  have m__encode_long := He.glo_ok X G (x := "_encode_long") (c.fact 35 rfl)
  have m_encode := He.glo_ok X G (x := "encode") (c.fact 36 rfl)
  have m_key_octets := He.glo_ok X G (x := "key_octets") (c.fact 37 rfl)
  have m__octets_of := He.glo_ok X G (x := "_octets_of") (c.fact 38 rfl)
  have m_write_bencode := He.glo_ok X G (x := "write_bencode") (c.fact 39 rfl)
  have m__law_told := He.glo_ok X G (x := "_law_told") (c.fact 40 rfl)
  have m_law := He.glo_ok X G (x := "law") (c.fact 41 rfl)
  have xx : ex K = true := c.more
  have x0 := (both xx).1
  replace xx := (both xx).2
  have x1 := (both xx).1
  replace xx := (both xx).2
  have x2 := (both xx).1
  replace xx := (both xx).2
  have x3 := (both xx).1
  replace xx := (both xx).2
  have x4 := (both xx).1
  replace xx := (both xx).2
  have x5 := (both xx).1
  replace xx := (both xx).2
  have x6 := (both xx).1
  replace xx := (both xx).2
  have x7 := (both xx).1
  replace xx := (both xx).2
  have x8 := (both xx).1
  replace xx := (both xx).2
  have x9 := (both xx).1
  replace xx := (both xx).2
  have x10 := xx
  have nb : Nm K mg := ⟨He.free_ok X G (c.fact 42 rfl),
    He.free_ok X G (c.fact 43 rfl),
    He.free_ok X G (c.fact 44 rfl),
    He.free_ok X G (c.fact 45 rfl),
    He.free_ok X G (c.fact 46 rfl),
    He.free_ok X G (c.fact 47 rfl),
    He.free_ok X G (c.fact 48 rfl),
    He.free_ok X G (c.fact 49 rfl),
    He.free_ok X G (c.fact 50 rfl),
    He.free_ok X G (c.fact 51 rfl),
    He.free_ok X G (c.fact 52 rfl),
    He.free_ok X G (c.fact 53 rfl),
    He.free_ok X G (c.fact 54 rfl),
    He.free_ok X G (c.fact 55 rfl),
    conI X G (c.fact 56 rfl),
    conI X G (c.fact 57 rfl),
    conI X G (c.fact 58 rfl),
    conM X G x0,
    conI X G (c.fact 59 rfl),
    conI X G (c.fact 60 rfl),
    conI X G (c.fact 61 rfl),
    conI X G (c.fact 62 rfl),
    He.glo_ok X G (c.fact 63 rfl),
    exkM x1,
    He.glo_ok X G (c.fact 64 rfl),
    exkM x2,
    He.glo_ok X G (c.fact 65 rfl),
    exkM x3,
    He.glo_ok X G (c.fact 66 rfl),
    exkM x4,
    isxM x5,
    of_decide_eq_true x6,
    of_decide_eq_true x7,
    of_decide_eq_true x8,
    of_decide_eq_true x9,
    He.glo_ok X G (c.fact 67 rfl),
    digK_ok x10⟩
  have e := hfa.symm.trans m_law
  cases e
  have b := FunD.bindsA (ps := ["script"]) F_law fun _ _ _ _ _ _ us hl => match us, hl with | [_], _ => rfl
  refine ⟨fd_law, fun s v => b s [v] rfl, fun base _ _ => ?_⟩
  have c_is_lacking := ok_is_lacking (P := P) (w := w) (base := base) F_is_lacking m_is_lacking nb
  have c_parts := ok_parts (P := P) (w := w) (base := base) F_parts m_parts nb
  have c_walk := ok_walk (P := P) (w := w) (base := base) F_walk m_walk nb c_parts
  have c_first_lacking := ok_first_lacking (P := P) (w := w) (base := base) F_first_lacking m_first_lacking nb c_is_lacking c_walk
  have c_bencode_lacks := ok_bencode_lacks (P := P) (w := w) (base := base) F_bencode_lacks m_bencode_lacks nb c_first_lacking
  have c__law_cell := ok__law_cell (P := P) (w := w) (base := base) F__law_cell m__law_cell nb
  have c__law_numbers := ok__law_numbers (P := P) (w := w) (base := base) F__law_numbers m__law_numbers nb
  have c__law_state := ok__law_state (P := P) (w := w) (base := base) F__law_state m__law_state nb c__law_cell c__law_numbers
  have c__law_next := ok__law_next (P := P) (w := w) (base := base) F__law_next m__law_next nb
  have c__law_many := ok__law_many (P := P) (w := w) (base := base) F__law_many m__law_many nb c__law_next
  have c__law_points := ok__law_points (P := P) (w := w) (base := base) F__law_points m__law_points nb c__law_next c__law_many
  have c__law_big := ok__law_big (P := P) (w := w) (base := base) F__law_big m__law_big nb c__law_cell c__law_next
  have c__law_normal := ok__law_normal (P := P) (w := w) (base := base) F__law_normal m__law_normal nb
  have c__law_number := ok__law_number (P := P) (w := w) (base := base) F__law_number m__law_number nb c__law_next c__law_big c__law_normal
  have c__law_octets := ok__law_octets (P := P) (w := w) (base := base) F__law_octets m__law_octets nb c__law_next c__law_many
  have c__law_leaf := ok__law_leaf (P := P) (w := w) (base := base) F__law_leaf m__law_leaf nb c__law_next c__law_number c__law_points c__law_octets
  have c__law_value := rec__law_value (P := P) (w := w) (base := base) F__law_value m__law_value nb c__law_next c__law_many c__law_points c__law_leaf 5
  have c__law_towered := ok__law_towered (P := P) (w := w) (base := base) F__law_towered m__law_towered nb c__law_next
  have c__law_walk := rec__law_walk (P := P) (w := w) (base := base) F__law_walk m__law_walk nb 26
  have c__law_same := rec__law_same (P := P) (w := w) (base := base) F__law_same m__law_same nb 5
  have c__law_utf8 := ok__law_utf8 (P := P) (w := w) (base := base) F__law_utf8 m__law_utf8 nb
  have c__law_ascii := ok__law_ascii (P := P) (w := w) (base := base) F__law_ascii m__law_ascii nb
  have c__law_string := ok__law_string (P := P) (w := w) (base := base) F__law_string m__law_string nb c__law_ascii
  have c__law_leaf_written := ok__law_leaf_written (P := P) (w := w) (base := base) F__law_leaf_written m__law_leaf_written nb c__law_ascii c__law_string
  have c__law_written := rec__law_written (P := P) (w := w) (base := base) F__law_written m__law_written nb c__law_utf8 c__law_string c__law_leaf_written 26
  have c__law_lacks := ok__law_lacks (P := P) (w := w) (base := base) F__law_lacks m__law_lacks nb
  have c__law_kinds := ok__law_kinds (P := P) (w := w) (base := base) F__law_kinds m__law_kinds nb c__law_next
  have z_Unwritable : Raz P w K mg base "Unwritable" (C_Unwritable K) "what" := razM F_AlikeError___init__ sc_AlikeError___init__ nb.x_Unwritable nb.g_Unwritable (fun _ _ _ _ _ _ _ us its hu hi => match us, its, hu, hi with | [_, _], [_], _, _ => ⟨_, rfl, rfl⟩) (fun _ _ _ _ _ _ => pss_one (ps_ost (pv 0) (pv 1)))
  have z_AlikeError : Raz P w K mg base "AlikeError" (C_AlikeError K) "what" := razM F_AlikeError___init__ sc_AlikeError___init__ nb.x_AlikeError nb.g_AlikeError (fun _ _ _ _ _ _ _ us its hu hi => match us, its, hu, hi with | [_, _], [_], _, _ => ⟨_, rfl, rfl⟩) (fun _ _ _ _ _ _ => pss_one (ps_ost (pv 0) (pv 1)))
  have z_Unreadable : Raz P w K mg base "Unreadable" (C_Unreadable K) "what" := razM F_AlikeError___init__ sc_AlikeError___init__ nb.x_Unreadable nb.g_Unreadable (fun _ _ _ _ _ _ _ us its hu hi => match us, its, hu, hi with | [_, _], [_], _, _ => ⟨_, rfl, rfl⟩) (fun _ _ _ _ _ _ => pss_one (ps_ost (pv 0) (pv 1)))
  have z_Doubled : Raz P w K mg base "Doubled" (C_Doubled K) "what" := razM F_AlikeError___init__ sc_AlikeError___init__ nb.x_Doubled nb.g_Doubled (fun _ _ _ _ _ _ _ us its hu hi => match us, its, hu, hi with | [_, _], [_], _, _ => ⟨_, rfl, rfl⟩) (fun _ _ _ _ _ _ => pss_one (ps_ost (pv 0) (pv 1)))
  have c_check_writable := ok_check_writable (P := P) (w := w) (base := base) F_check_writable m_check_writable nb z_Unwritable c_first_lacking
  have c_power := ok_power (P := P) (w := w) (base := base) F_power m_power nb
  have c_whole := ok_whole (P := P) (w := w) (base := base) F_whole m_whole nb c_power
  have c_digits_of := ok_digits_of (P := P) (w := w) (base := base) F_digits_of m_digits_of nb
  have c_signed_digits := ok_signed_digits (P := P) (w := w) (base := base) F_signed_digits m_signed_digits nb c_digits_of
  have c_in_ascii := ok_in_ascii (P := P) (w := w) (base := base) F_in_ascii m_in_ascii nb
  have c_with_count := ok_with_count (P := P) (w := w) (base := base) F_with_count m_with_count nb c_digits_of c_in_ascii
  have c_leaf_octets := ok_leaf_octets (P := P) (w := w) (base := base) F_leaf_octets m_leaf_octets nb c_whole c_signed_digits c_in_ascii c_with_count
  have c__encode_long := ok__encode_long (P := P) (w := w) (base := base) F__encode_long m__encode_long nb
  have c_encode := ok_encode (P := P) (w := w) (base := base) F_encode m_encode nb c__encode_long
  have c_key_octets := ok_key_octets (P := P) (w := w) (base := base) F_key_octets m_key_octets nb c_with_count c_encode
  have c__octets_of := rec__octets_of (P := P) (w := w) (base := base) F__octets_of m__octets_of nb c_leaf_octets c_key_octets 26
  have c_write_bencode := ok_write_bencode (P := P) (w := w) (base := base) F_write_bencode m_write_bencode nb c_check_writable c__octets_of
  have c__law_told := ok__law_told (P := P) (w := w) (base := base) F__law_told m__law_told nb z_AlikeError c_write_bencode
  exact ok_law F_law nb c_bencode_lacks c__law_cell c__law_state c__law_next c__law_value c__law_towered c__law_walk c__law_same c__law_written c__law_lacks c__law_kinds c__law_told
end Fa
open PySem PySem.W PySem.Calls PyProof.Rows
theorem PySem.Challenge.cw_formsalike_k36_bencode_written_holds : PySem.Challenge.rw_formsalike_k36_bencode_written.Holds := by
  w_on; o_law
  refine HandSHeadRun.head_any (r := OpenLaw.row PySem.Challenge.rw_formsalike_k36_bencode_written) (q := view (OpenLaw.row PySem.Challenge.rw_formsalike_k36_bencode_written).prog [62]) (H := Fa.hk) (ob := Fa.ob) (M := 6000) (loose := Fa.loose) (d := HandSHeadRun.topDef (OpenLaw.row PySem.Challenge.rw_formsalike_k36_bencode_written).prog 62) (kwd := []) Fa.ob_eq
    (by kernel_rfl) (fun s => by kernel_rfl) Fa.run (by kernel_rfl) (by kernel_rfl) (by kernel_rfl) (by rfl) (by first | assumption | decide +kernel) (by decide +kernel) ⟨rfl, rfl, rfl, rfl, rfl, by decide +kernel⟩ ?hw ?hc
  case hw => w_witness2
  case hc =>
    refine L2.walk_ofE (l := PySem.Challenge.rw_formsalike_k36_bencode_written) (n := 63) (k := 33) (x := "script") (CX := L2.CX0) rfl (by decide) (by kernel_rfl) ⟨rfl, by decide, by decide⟩ ?F (fun _ _ _ _ z => z)
    intro w mg fa h Y G hmg0
    obtain ⟨K, KX, c⟩ := Y
    have hmg : mg ("law" : PySem.Str) = some (.ref fa) := by
      have e : (HandSHeadRun.topDef (OpenLaw.row PySem.Challenge.rw_formsalike_k36_bencode_written).prog 62).name = ("law" : PySem.Str) := by kernel_rfl
      rw [← e]
      exact hmg0
    obtain ⟨fd, hb, hF⟩ := Fa.facts (P := (PySem.Challenge.rw_formsalike_k36_bencode_written).prog) (w := w) KX G hmg c
    exact ⟨K, fd, Fa.sp_law K, KX, hb, fun H a ns hl _ hS => ⟨_, rfl, a, ns, rfl, hS, fun _ => rfl⟩, hF⟩
