import PyProof.Rows.All
import Wide.All
import OpenK.AllK
import Wide.FinOn
import KE.KStateDown
import KE.GoesMore
import KE.GoesEnum
import HandS.Iter
import HandS.TupLe
import HandS.Deep
import KE.KEqSeq
import KE.KEqDeep
import HandS.ForMost
import HandS.Exc
import HandS.More
import HandS.Wide
import HandS.Property
import HandS.WideBits
import HandS.Conv
import HandS.Codes
import HandS.IsInst
import HandS.Flow
import HandS.Defaults
import HandS.EndBits
import HandS.Head0
import HandS.Head1
import HandS.Head2
import KE.KExcIs
import HandS.StrMore
import HandS.RevTup
import HandS.Rev
import KE.KIntText
import PyProof.Rows.StrFirst
import HandS.CallLocal
import HandS.AnyAll
import HandS.HeadEnd
import HandS.HeadHook1
import HandS.HeadHook2
import HandS.NoneIn
import HandS.TupAny
import HandS.Style
import HandS.SortRule
import HandS.DictTup
import HandS.TupLe
import HandS.Deep
import PySem.Challenge.RW_formsalike_k41_bencode_loose
import HandS.ExcOwn
import HandS.ExcInit
import HandS.ExcField
import HandS.WordsExc
set_option Elab.async false
set_option linter.all false
set_option maxRecDepth 100000
set_option maxHeartbeats 4000000
namespace Fa
open PySem PySem.Spec L2 SX
open PyProof.Rows (envOfC)
open C8 (Cal pe_c Mak pe_mk Met pe_mt pe_mt0 pe_gc tCut pss_cut)
def top (i : Nat) : Stmt := PySem.Challenge.pw_formsalike_k41_bencode_loose.main.body.getD i (.Pass ⟨0, 0, 0, 0⟩)

/-! ### readings, a step each -/
section
variable {σ : St} {H : Hp} {n b c : St → Hp → Prop} {r : VK} {Q : VK} {K : PySem.W.Frag}
theorem r_seq {t u : TS} (h : t ⟨u ⟨n, r, b, c⟩, r, b, c⟩ σ H) : tSeq t u ⟨n, r, b, c⟩ σ H := h
theorem r_asg {te : TE} {g : TG} (h : te σ H fun x H1 => g x σ H1 n) : tAsg te g ⟨n, r, b, c⟩ σ H := h
theorem r_name {i : Nat} {v : V} {R : St → Hp → Prop} (h : R (σ.set i (some v)) H) : gName i v σ H R := h
theorem r_var {i : Nat} {v : V} (e : σ[i]? = some (some v)) (h : Q v H) : tVar i σ H Q := ⟨v, e, h⟩
theorem r_c {v : V} (h : Q v H) : tC v σ H Q := h
theorem r_op {r : R2} {ta tb : TE} (h : ta σ H fun x H1 => tb σ H1 fun y H2 => r x y H2 Q) : tOp r ta tb σ H Q := h
theorem r_un {r : V → Hp → VK → Prop} {ta : TE} (h : ta σ H fun x H1 => r x H1 Q) : tUn r ta σ H Q := h
theorem r_I0 {g : Int → Int → V} {i j : Int} (h : Q (g i j) H) : rI0 g (.int i) (.int j) H Q := ⟨i, j, rfl, rfl, h⟩
theorem r_I {C : Int → Int → Prop} {g : Int → Int → V} {i j : Int} (c : C i j) (h : Q (g i j) H) : rI C g (.int i) (.int j) H Q := ⟨i, j, rfl, rfl, c, h⟩
theorem r_U {g : Int → V} {i : Int} (h : Q (g i) H) : rU g (.int i) H Q := ⟨i, rfl, h⟩
theorem r_eqI {i j : Int} (h : Q (.bl (decide (i = j))) H) : rEq (.int i) (.int j) H Q := by
  have e : decide (V.int i = V.int j) = decide (i = j) := by simp
  exact ⟨rfl, by rw [e]; exact h⟩
theorem r_neI {i j : Int} (h : Q (.bl (!decide (i = j))) H) : rNe (.int i) (.int j) H Q := by
  have e : decide (V.int i = V.int j) = decide (i = j) := by simp
  exact ⟨rfl, by rw [e]; exact h⟩
theorem r_eqS {i j : Str} (h : Q (.bl (decide (i = j))) H) : rEq (.str i) (.str j) H Q := by
  have e : decide (V.str i = V.str j) = decide (i = j) := by simp
  exact ⟨rfl, by rw [e]; exact h⟩
theorem r_neS {i j : Str} (h : Q (.bl (!decide (i = j))) H) : rNe (.str i) (.str j) H Q := by
  have e : decide (V.str i = V.str j) = decide (i = j) := by simp
  exact ⟨rfl, by rw [e]; exact h⟩
theorem r_nil {R : List V → Hp → Prop} (h : R [] H) : tNil σ H R := h
theorem r_cons {te : TE} {t : TA} {R : List V → Hp → Prop} (h : te σ H fun x H1 => t σ H1 fun xs H2 => R (x :: xs) H2) : tCons te t σ H R := h
theorem r_drop {te : TE} (h : te σ H fun _ H1 => n σ H1) : tDrop te ⟨n, r, b, c⟩ σ H := h
theorem r_ret {te : TE} (h : te σ H r) : tRet te ⟨n, r, b, c⟩ σ H := h
theorem r_retN (h : r .non H) : tRetN ⟨n, r, b, c⟩ σ H := h
theorem r_next (h : n σ H) : tNext ⟨n, r, b, c⟩ σ H := h
theorem r_brk (h : b σ H) : tBreak ⟨n, r, b, c⟩ σ H := h
theorem r_if {e : TT} {t u : TS} (h : e σ H fun k H1 => if k = true then t ⟨n, r, b, c⟩ σ H1 else u ⟨n, r, b, c⟩ σ H1) : tIfS e t u ⟨n, r, b, c⟩ σ H := h
theorem r_ifE {c : TT} {ta tb : TE} (h : c σ H fun b H1 => if b = true then ta σ H1 Q else tb σ H1 Q) : tIf c ta tb σ H Q := h
theorem r_test {te : TE} {R : Bool → Hp → Prop} (h : te σ H fun x H' => ∃ k, x = .bl k ∧ R k H') : tTest te σ H R := h
theorem r_B {te : TE} {R : Bool → Hp → Prop} (h : te σ H fun x H' => ∃ k, x = .bl k ∧ R k H') : tB te σ H R := h
theorem r_bl {b : Bool} {R : Bool → Prop} (h : R b) : ∃ k, V.bl b = .bl k ∧ R k := ⟨b, rfl, h⟩
theorem r_and {t u : TT} {R : Bool → Hp → Prop} (h : t σ H fun c H1 => if c = true then u σ H1 R else R false H1) : tAnd t u σ H R := h
theorem r_or {t u : TT} {R : Bool → Hp → Prop} (h : t σ H fun c H1 => if c = true then R true H1 else u σ H1 R) : tOr t u σ H R := h
theorem r_not {t : TT} {R : Bool → Hp → Prop} (h : t σ H fun c H1 => R (!c) H1) : tNot t σ H R := h
theorem r_andV {ta tb : TE} (h : ta σ H fun x H1 => ∃ c, x = .bl c ∧ if c = true then tb σ H1 Q else Q (.bl false) H1) : tAndV ta tb σ H Q := h
theorem r_orV {ta tb : TE} (h : ta σ H fun x H1 => ∃ c, x = .bl c ∧ if c = true then Q (.bl true) H1 else tb σ H1 Q) : tOrV ta tb σ H Q := h
theorem r_notV {ta : TE} (h : ta σ H fun x H1 => ∃ c, x = .bl c ∧ Q (.bl (!c)) H1) : tNotV ta σ H Q := h
theorem r_chain {r r' : R2} {ta tb tc : TE} (h : ta σ H fun x H1 => tb σ H1 fun y H2 => r x y H2 fun z H3 => ∃ k, z = .bl k ∧ (if k = true then tc σ H3 fun w' H4 => r' y w' H4 Q else Q (.bl false) H3)) : tChain r r' ta tb tc σ H Q := h
theorem r_tup {t : TA} (h : t σ H fun xs H1 => xs.length ≤ sizeLine ∧ ∀ p, H1 p = none → Q (.ref p) (upd H1 p (.tup xs))) : tTup t σ H Q := h
theorem r_lst {t : TA} (h : t σ H fun xs H1 => xs.length ≤ sizeLine ∧ ∀ p, H1 p = none → Q (.ref p) (upd H1 p (.lst xs))) : tLst t σ H Q := h
theorem r_call {sp : Sp} {dvs : List V} {E : XK} {t : TA} (h : t σ H fun vs H1 => sp (vs ++ dvs) H1 Q E) : tCall sp dvs E t σ H Q := h
theorem r_CB {r : List V → Hp → VK → Prop} {t : TA} (h : t σ H fun vs H1 => r vs H1 Q) : tCB r t σ H Q := h
theorem r_ixL {p : Addr} {xs : List V} {i : Int} {v : V} (hs : SqL K H p xs) (e : atI xs i = some v) (h : Q v H) : rIxL K (.ref p) (.int i) H Q := ⟨p, xs, i, v, rfl, rfl, hs, e, h⟩
theorem r_ixT {p : Addr} {xs : List V} {i : Int} {v : V} (hs : SqT K H p xs) (e : atI xs i = some v) (h : Q v H) : rIxT K (.ref p) (.int i) H Q := ⟨p, xs, i, v, rfl, rfl, hs, e, h⟩
theorem r_ite {p : Prop} [Decidable p] {A B : Prop} (h1 : p → A) (h2 : ¬ p → B) : if decide p = true then A else B := by
  by_cases c : p
  · rw [if_pos (decide_eq_true c)]
    exact h1 c
  · rw [if_neg (by simp [c])]
    exact h2 c
theorem r_iten {p : Prop} [Decidable p] {A B : Prop} (h1 : ¬ p → A) (h2 : p → B) : if (!decide p) = true then A else B := by
  by_cases c : p
  · rw [if_neg (by simp [c])]
    exact h2 c
  · rw [if_pos (by simp [c])]
    exact h1 c
theorem r_itep {p : Prop} [Decidable p] {A B : Prop} (c : p) (h : A) : if decide p = true then A else B := by
  rw [if_pos (decide_eq_true c)]
  exact h
theorem r_iteN {p : Prop} [Decidable p] {A B : Prop} (c : ¬ p) (h : B) : if decide p = true then A else B := by
  rw [if_neg (by simp [c])]
  exact h
theorem r_iteF {A B : Prop} (h : B) : if false = true then A else B := by
  rw [if_neg Bool.false_ne_true]
  exact h
theorem r_iteT {A B : Prop} (h : A) : if true = true then A else B := by
  rw [if_pos rfl]
  exact h
theorem r_iteNT {A B : Prop} (h : B) : if (!true) = true then A else B := by
  rw [if_neg (by decide)]
  exact h
theorem r_iteNF {A B : Prop} (h : A) : if (!false) = true then A else B := by
  rw [if_pos (by decide)]
  exact h
theorem r_no {p : Prop} [Decidable p] {A B : Prop} (c : p) (h : B) : if (!decide p) = true then A else B := by
  rw [if_neg (by simp [c])]
  exact h
/-- a for over a written range(m) -/
theorem r_forN {v : Int} {g : TG} {tb : TS} (m : Nat) (e : v = (m : Int)) (hn : m < 2 ^ 62) (Pv : Nat → St → Hp → Prop) (h0 : Pv 0 σ H)
    (hs : ∀ (i : Nat) σ H, i < m → Pv i σ H → g (.int (i : Int)) σ H fun σ2 H2 => tb ⟨Pv (i + 1), r, n, Pv (i + 1)⟩ σ2 H2) (hd : ∀ σ H, Pv m σ H → n σ H) : tFor (iRng1 (tCons (tC (.int v)) tNil)) g tb ⟨n, r, b, c⟩ σ H := by
  subst e
  refine ⟨(m : Int), rfl, by omega, by omega, for_range Pv h0 (fun i σ H hi p => ?_) hd⟩
  rw [Int.zero_add]
  exact hs i σ H (by omega) p
/-- a for over range(v), v in a slot -/
theorem r_forV {v : Int} {k : Nat} {g : TG} {tb : TS} (e : σ[k]? = some (some (.int v))) (h1 : -(2 ^ 62) ≤ v) (h2 : v < 2 ^ 62) (Pv : Nat → St → Hp → Prop) (h0 : Pv 0 σ H)
    (hs : ∀ (i : Nat) σ H, (i : Int) < v → Pv i σ H → g (.int (i : Int)) σ H fun σ2 H2 => tb ⟨Pv (i + 1), r, n, Pv (i + 1)⟩ σ2 H2) (hd : ∀ σ H, Pv v.toNat σ H → n σ H) : tFor (iRng1 (tCons (tVar k) tNil)) g tb ⟨n, r, b, c⟩ σ H := by
  refine ⟨_, e, v, rfl, h1, h2, for_range Pv h0 (fun i σ H hi p => ?_) hd⟩
  rw [Int.zero_add]
  exact hs i σ H (by omega) p
/-- a for over range(e), the turns behind its reading -/
theorem r_for {wi : TI} {g : TG} {tb : TS} (h : wi σ H fun J H1 => ∃ W : Nat → Nat → St → Hp → Prop, (∃ m, W 0 m σ H1) ∧ ∀ i m σ H, W i m σ H →
    (J.stop i H ∧ n σ H) ∨ (J.go i H ∧ ∃ N : St → Hp → Prop, (∀ σ' H', N σ' H' → ∃ m', m' < m ∧ W (i + 1) m' σ' H') ∧ ∀ x H', J.yld i H x H' → g x σ H' fun σ2 H2 => tb ⟨N, r, n, N⟩ σ2 H2)) : tFor wi g tb ⟨n, r, b, c⟩ σ H := h
theorem r_rng1 {ta : TA} {R : It → Hp → Prop} (h : ta σ H fun vs H1 => ∃ j : Int, vs = [.int j] ∧ -(2 ^ 62) ≤ j ∧ j < 2 ^ 62 ∧ R (Itr 0 j.toNat) H1) : iRng1 ta σ H R := h
/-- .. the turns -/
theorem r_turns {j : Int} {g : TG} {tb : TS} (h1 : -(2 ^ 62) ≤ j) (h2 : j < 2 ^ 62) (Pv : Nat → St → Hp → Prop) (h0 : Pv 0 σ H)
    (hs : ∀ (i : Nat) σ H, (i : Int) < j → Pv i σ H → g (.int (i : Int)) σ H fun σ2 H2 => tb ⟨Pv (i + 1), r, n, Pv (i + 1)⟩ σ2 H2) (hd : ∀ σ H, Pv j.toNat σ H → n σ H) :
    -(2 ^ 62) ≤ j ∧ j < 2 ^ 62 ∧ ∃ W : Nat → Nat → St → Hp → Prop, (∃ m, W 0 m σ H) ∧ ∀ i m σ H, W i m σ H →
    ((Itr 0 j.toNat).stop i H ∧ n σ H) ∨ ((Itr 0 j.toNat).go i H ∧ ∃ N : St → Hp → Prop, (∀ σ' H', N σ' H' → ∃ m', m' < m ∧ W (i + 1) m' σ' H') ∧ ∀ x H', (Itr 0 j.toNat).yld i H x H' → g x σ H' fun σ2 H2 => tb ⟨N, r, n, N⟩ σ2 H2) := by
  refine ⟨h1, h2, for_range (D := ⟨n, r, fun _ _ => False, fun _ _ => False⟩) Pv h0 (fun i σ H hi p => ?_) hd⟩
  rw [Int.zero_add]
  exact hs i σ H (by omega) p
theorem r_while {e : TT} {tb : TS} (W : Nat → St → Hp → Prop) (m : Nat) (h0 : W m σ H)
    (hs : ∀ m σ H, W m σ H → e σ H fun k H1 => if k = true then ∃ N : St → Hp → Prop, (∀ σ' H', N σ' H' → ∃ m', m' < m ∧ W m' σ' H') ∧ tb ⟨N, r, n, N⟩ σ H1 else n σ H1) : tWhile e tb ⟨n, r, b, c⟩ σ H := ⟨W, ⟨m, h0⟩, hs⟩
theorem r_turn {tb : TS} {W : Nat → St → Hp → Prop} {m : Nat} (h : tb ⟨fun σ' H' => ∃ m', m' < m ∧ W m' σ' H', r, n, fun σ' H' => ∃ m', m' < m ∧ W m' σ' H'⟩ σ H) :
    ∃ N : St → Hp → Prop, (∀ σ' H', N σ' H' → ∃ m', m' < m ∧ W m' σ' H') ∧ tb ⟨N, r, n, N⟩ σ H := ⟨_, fun _ _ h => h, h⟩
end
/-! ### promises by the number of arguments -/
def sp1 (f : V → Hp → VK → XK → Prop) : Sp := fun vs H Q E => ∃ a, vs = [a] ∧ f a H Q E
def sp2 (f : V → V → Hp → VK → XK → Prop) : Sp := fun vs H Q E => ∃ a b, vs = [a, b] ∧ f a b H Q E
def sp3 (f : V → V → V → Hp → VK → XK → Prop) : Sp := fun vs H Q E => ∃ a b c, vs = [a, b, c] ∧ f a b c H Q E
def sp4 (f : V → V → V → V → Hp → VK → XK → Prop) : Sp := fun vs H Q E => ∃ a b c d, vs = [a, b, c, d] ∧ f a b c d H Q E
def sp5 (f : V → V → V → V → V → Hp → VK → XK → Prop) : Sp := fun vs H Q E => ∃ a b c d e, vs = [a, b, c, d, e] ∧ f a b c d e H Q E
def sp6 (f : V → V → V → V → V → V → Hp → VK → XK → Prop) : Sp := fun vs H Q E => ∃ a b c d e g, vs = [a, b, c, d, e, g] ∧ f a b c d e g H Q E
theorem len5 {f} (vs : List V) (H : Hp) (Q : VK) (E : XK) (h : sp5 f vs H Q E) : vs.length = 5 := by
  obtain ⟨_, _, _, _, _, rfl, _⟩ := h
  rfl
theorem len6 {f} (vs : List V) (H : Hp) (Q : VK) (E : XK) (h : sp6 f vs H Q E) : vs.length = 6 := by
  obtain ⟨_, _, _, _, _, _, rfl, _⟩ := h
  rfl
theorem len1 {f} (vs : List V) (H : Hp) (Q : VK) (E : XK) (h : sp1 f vs H Q E) : vs.length = 1 := by
  obtain ⟨_, rfl, _⟩ := h
  rfl
theorem len2 {f} (vs : List V) (H : Hp) (Q : VK) (E : XK) (h : sp2 f vs H Q E) : vs.length = 2 := by
  obtain ⟨_, _, rfl, _⟩ := h
  rfl
theorem len3 {f} (vs : List V) (H : Hp) (Q : VK) (E : XK) (h : sp3 f vs H Q E) : vs.length = 3 := by
  obtain ⟨_, _, _, rfl, _⟩ := h
  rfl
theorem len4 {f} (vs : List V) (H : Hp) (Q : VK) (E : XK) (h : sp4 f vs H Q E) : vs.length = 4 := by
  obtain ⟨_, _, _, _, rfl, _⟩ := h
  rfl
/-- a def's promise from its body -/
theorem calD {P : Program} {w : World} {K : PySem.W.Frag} {mg : Str → Option Value} {base : Heap} {x qual : Str} {params : Arguments} {body : List Stmt} {scope : Scope} {f : Addr} {fd : FuncData} {N ps : List Str} {k : Nat} {sp : Sp}
    (F : FunD K x qual params body scope [] [] f fd) (m : mg x = some (.ref f)) (S : FnScope N ps scope)
    (hb : ∀ (kV doc pm : Value) (an : Option Addr) (cdv ct : Value) (us : List Value), us.length = ps.length → bindArgs (PySem.W.fnOf x qual params body scope .none kV doc pm an cdv ct) ⟨us, []⟩ = pure (ps.zip us))
    (len : ∀ vs H Q E, sp vs H Q E → vs.length = ps.length)
    (hbody : ∀ (cdv : Value) (A : Around) (outer : List Env) (s : Shared) (H : Hp) (vs : List V) (Q : VK) (E : XK), Room k (A.deeper (envOfC qual scope s.heap.objs.size f cdv)) → sp vs H Q E →
      ∃ t, PSs (cxOf CX0 P w K mg base N qual scope f cdv A outer s H E).nox body t ∧ t { nx := fun _ H' => Q .non H', rt := Q } (start N vs) H) : Cal P w K mg base (k + 1) x sp [] :=
  ⟨f, fd, ps, [], F.ok S len fun cdv A outer s H vs Q E hr h => by
    obtain ⟨t, h1, h2⟩ := hbody cdv A outer s H vs Q E hr h
    exact ⟨t, h1.nox, h2⟩, m, F.kp, F.bindsN hb, .nil⟩
theorem fnD {P : Program} {w : World} {K : PySem.W.Frag} {mg : Str → Option Value} {base : Heap} {x qual : Str} {params : Arguments} {body : List Stmt} {scope : Scope} {f : Addr} {fd : FuncData} {N ps : List Str} {k : Nat} {sp : Sp}
    (F : FunD K x qual params body scope [] [] f fd) (S : FnScope N ps scope) (len : ∀ vs H Q E, sp vs H Q E → vs.length = ps.length)
    (hbody : ∀ (cdv : Value) (A : Around) (outer : List Env) (s : Shared) (H : Hp) (vs : List V) (Q : VK) (E : XK), Room k (A.deeper (envOfC qual scope s.heap.objs.size f cdv)) → sp vs H Q E →
      ∃ t, PSs (cxOf CX0 P w K mg base N qual scope f cdv A outer s H E).nox body t ∧ t { nx := fun _ H' => Q .non H', rt := Q } (start N vs) H) : FnOk P w K mg base CX0 (k + 1) f fd ps sp :=
  F.ok S len fun cdv A outer s H vs Q E hr h => by
    obtain ⟨t, h1, h2⟩ := hbody cdv A outer s H vs Q E hr h
    exact ⟨t, h1.nox, h2⟩
theorem conI {K : PySem.W.Frag} {h : Heap} {mg : Str → Option Value} {x : Str} {i : Int} (X : K.In h) (G : h.Ns mainGlobals mg) (c : (He.Fa.int x i).ok K = true) : ∃ u, mg x = some u ∧ RelV (.int i) u := by
  obtain ⟨t, e⟩ := He.int_ok X G c
  exact ⟨_, e, t, rfl⟩
theorem conS {K : PySem.W.Frag} {h : Heap} {mg : Str → Option Value} {x z : Str} (X : K.In h) (G : h.Ns mainGlobals mg) (c : (He.Fa.str x z).ok K = true) : ∃ u, mg x = some u ∧ RelV (.str z) u := by
  obtain ⟨t, e⟩ := He.str_ok X G c
  exact ⟨_, e, t, rfl⟩

/-! ### more readings -/
section
variable {σ : St} {H : Hp} {n b c : St → Hp → Prop} {r : VK} {Q : VK}
theorem r_cut {t u : TS} (Mid : St → Hp → Prop) (h1 : t ⟨Mid, r, b, c⟩ σ H) (h2 : ∀ σ' H', Mid σ' H' → u ⟨n, r, b, c⟩ σ' H') : tCut t u ⟨n, r, b, c⟩ σ H := ⟨Mid, h1, h2⟩
end
section
variable {σ : St} {H : Hp} {Q : VK} {K : PySem.W.Frag}
theorem r_yes {R : Bool → Hp → Prop} (h : R true H) : tYes σ H R := h
theorem r_isi {x : V} {c d : String} {b : Bool} (t : TyX K H x (.type d)) (e : kitB d c = some b) (h : Q (.bl b) H) : rIsi K [x, .ty c] H Q := ⟨x, .ty c, .type d, .type c, b, rfl, .ty c, t, kit_ty e, h⟩
theorem r_neD {x y : V} {d e : PyData} (h1 : Dp K H x d) (h2 : Dp K H y e) (s1 : SeqAt.shaped d = true) (s2 : SeqAt.shaped e = true) (h : Q (.bl (!PyData.eqv d e)) H) : rNeD K x y H Q := ⟨d, e, h1, h2, s1, s2, h⟩
theorem r_eqD {x y : V} {d e : PyData} (h1 : Dp K H x d) (h2 : Dp K H y e) (s1 : SeqAt.shaped d = true) (s2 : SeqAt.shaped e = true) (h : Q (.bl (PyData.eqv d e)) H) : rEqD K x y H Q := ⟨d, e, h1, h2, s1, s2, h⟩
theorem eqv_same {d : PyData} (s : SeqAt.shaped d = true) : PyData.eqv d d = true := SeqAt.eqv_refl d (Bool.and_eq_true_iff.mp s).1
/-- the same data on both sides -/
theorem r_neDs {x y : V} {d : PyData} (h1 : Dp K H x d) (h2 : Dp K H y d) (s : SeqAt.shaped d = true) (h : Q (.bl false) H) : rNeD K x y H Q := r_neD h1 h2 s s (by rw [eqv_same s]; exact h)
theorem r_eqDs {x y : V} {d : PyData} (h1 : Dp K H x d) (h2 : Dp K H y d) (s : SeqAt.shaped d = true) (h : Q (.bl true) H) : rEqD K x y H Q := r_eqD h1 h2 s s (by rw [eqv_same s]; exact h)
theorem r_rfl {v : V} {B : Prop} (h : B) : v = v ∧ B := ⟨rfl, h⟩
theorem r_gtup {p : Addr} {xs : List V} {n : Nat} {t : TGs} {R : St → Hp → Prop} (hs : SqT K H p xs) (hl : xs.length = n) (h : t xs σ H R) : gTup K n t (.ref p) σ H R := ⟨p, xs, rfl, hs, hl, h⟩
theorem r_gcons {t : TG} {u : TGs} {v : V} {vs : List V} {R : St → Hp → Prop} (h : t v σ H fun σ' H' => u vs σ' H' R) : gCons t u (v :: vs) σ H R := ⟨v, vs, rfl, h⟩
theorem r_gnil {R : St → Hp → Prop} (h : R σ H) : gNil [] σ H R := ⟨rfl, h⟩
theorem r_iteC {p : Prop} [Decidable p] {a b : Int} (h : Q (.int (if p then a else b)) H) : if decide p = true then tC (.int a) σ H Q else tC (.int b) σ H Q := by
  by_cases c : p
  · rw [if_pos (decide_eq_true c)]
    rw [if_pos c] at h
    exact h
  · rw [if_neg (by simp [c])]
    rw [if_neg c] at h
    exact h
theorem r_iteJ {p : Prop} [Decidable p] {ta tb : TE} (v : V) (h1 : p → ∀ R : VK, R v H → ta σ H R) (h2 : ¬ p → ∀ R : VK, R v H → tb σ H R) (h : Q v H) : if decide p = true then ta σ H Q else tb σ H Q := by
  by_cases c : p
  · rw [if_pos (decide_eq_true c)]
    exact h1 c Q h
  · rw [if_neg (by simp [c])]
    exact h2 c Q h
theorem r_max2 {p : Addr} {x y : Int} (hs : H p = some (.lst [.int x, .int y])) (h : Q (.int (max x y)) H) : rMax K [.ref p] H Q := by
  refine ⟨p, [x, y], rfl, SqL.of hs, by show 0 < 2; decide, fun m hm hle => ?_⟩
  have h1 := hle x (by simp)
  have h2 := hle y (by simp)
  have e : m = max x y := by
    rcases List.mem_cons.mp hm with e | e
    · omega
    · rcases List.mem_cons.mp e with e | e
      · omega
      · cases e
  rw [e]
  exact h
theorem r_lam1 {x : V} {R : V → Prop} (h : R x) : ∃ i, [x] = [i] ∧ R i := ⟨x, rfl, h⟩
theorem r_abs {x : Int} {R : Int → Prop} (h : R x) : ∃ i, [V.int x] = [V.int i] ∧ R i := ⟨x, rfl, h⟩
theorem r_int1 {x : Int} {R : Int → Prop} {B : Prop} (h : R x) : (∃ i, [V.int x] = [V.int i] ∧ R i) ∨ B := .inl ⟨x, rfl, h⟩
theorem r_bm {T : String} {r : V → List V → Hp → VK → Prop} {to : TE} {t : TA} (h : to σ H fun x H1 => tyV K T x H1 ∧ t σ H1 fun xs H2 => r x xs H2 Q) : tBM K T r to t σ H Q := h
theorem r_bm0 {T : String} {r : V → List V → Hp → VK → Prop} {to : TE} (h : to σ H fun x H1 => tyV K T x H1 ∧ r x [] H1 Q) : tBM0 K T r to σ H Q := h
theorem tyL {p : Addr} {xs : List V} (h : H p = some (.lst xs)) : tyV K "list" (.ref p) H := Or.inl ⟨rfl, _, SqL.of h⟩
theorem r_app {p : Addr} {xs : List V} {y : V} (h : H p = some (.lst xs)) (hl : xs.length < sizeLine) (q : Q .non (upd H p (.lst (xs ++ [y])))) : rAppend (.ref p) [y] H Q := ⟨p, xs, y, rfl, rfl, h, hl, q⟩
theorem r_sub {to ti : TE} {t : TSet} {v : V} {R : St → Hp → Prop} (h : to σ H fun o H1 => ti σ H1 fun i H2 => t o i v H2 fun H3 => R σ H3) : gSub to ti t v σ H R := h
theorem r_setL {p : Addr} {xs : List V} {k : Int} {j : Nat} {v : V} {R : Hp → Prop} (h : H p = some (.lst xs)) (e : ixN xs.length k = some j) (q : R (upd H p (.lst (xs.set j v)))) : rSetL (.ref p) (.int k) v H R := ⟨p, xs, k, j, rfl, rfl, h, e, q⟩
theorem r_lcR {ta : TA} {g : TG} {tt : TT} {te : TE} {vs : List Nat} (n : Nat) (hn : n < 2 ^ 62)
    (h : ∀ D, H D = none → ∃ W : Nat → Nat → Hp → Prop, (∃ m, W 0 m (upd H D (.lst []))) ∧ ∀ i m H, W i m H →
      ((Itr 0 n).stop i H ∧ Q (.ref D) H) ∨ ((Itr 0 n).go i H ∧ ∃ Nx : Hp → Prop, (∀ H', Nx H' → ∃ m', m' < m ∧ W (i + 1) m' H') ∧ ∀ x H', (Itr 0 n).yld i H x H' → g x (wipe σ vs) H' fun σ2 H2 => wipe σ2 vs = wipe σ vs ∧ tt σ2 H2 fun b H3 =>
        if b = true then te σ2 H3 fun y H4 => ∃ acc, H4 D = some (.lst acc) ∧ acc.length < sizeLine ∧ Nx (upd H4 D (.lst (acc ++ [y]))) else Nx H3))
    (he : ∀ R : List V → Hp → Prop, R [.int (n : Int)] H → ta σ H R) : tLc (iRng1 ta) g tt te vs σ H Q := by
  refine he _ ⟨(n : Int), rfl, by omega, by omega, ?_⟩
  have e : ((n : Int)).toNat = n := by omega
  rw [e]
  exact h
theorem same_upd {H : Hp} {p : Addr} (h : H p = none) (o : HO) : Same H (upd H p o) := fun b u q => by
  rw [upd_ne (ne_of_none q h)]
  exact q
theorem seq_upd {p b : Addr} {xs : List V} {o : HO} (h : SqL K H b xs) (hn : b ≠ p) : SqL K (upd H p o) b xs := by
  rcases h with (h | ⟨u, h⟩) | h
  · exact .inl (.inl ((upd_ne hn).trans h))
  · exact .inl (.inr ⟨u, (upd_ne hn).trans h⟩)
  · exact .inr h
theorem atI_ints {ns : List Int} {k : Int} (h0 : 0 ≤ k) (h1 : k < (ns.length : Int)) : ∃ v, v ∈ ns ∧ atI (ns.map V.int) k = some (.int v) := by
  have hk : k.toNat < ns.length := by omega
  have ek : k = ((k.toNat : Nat) : Int) := by omega
  have q : atI (ns.map V.int) ((k.toNat : Nat) : Int) = some (.int ns[k.toNat]) := atI_nat (by rw [List.getElem?_map, List.getElem?_eq_getElem hk] <;> rfl)
  rw [← ek] at q
  exact ⟨ns[k.toNat], List.getElem_mem hk, q⟩
end

/-! ### what the program's top leaves, looked at: its defs by their addresses, facts, written data; the statics too -/
abbrev Frg := PySem.W.Frag
/-- the getter of a property of a class -/
def prAd (C f : Str) (K : Frg) : Addr := match PySem.W.recIn K (He.ma K (He.ga K C) f) "property" with
  | some (.ref g :: _) => g
  | _ => 0
def glAd (x : Str) (K : Frg) : Addr := He.ga K x
def meAd (C m : Str) (K : Frg) : Addr := He.ma K (He.ga K C) m
structure DefM where
  ad : Frg → Addr
  nm : Str
  ql : Str
  pa : Arguments
  bo : List Stmt
  sc : Scope
  df : List He.Dv := []
def seeM (K : Frg) (d : DefM) : He.FnW := match K.lookup (d.ad K) with
  | some ⟨_, _, .func u, _⟩ => some (u.name, u.qualname, u.params, u.body, u.scope, u.globals, u.closure, u.builtins)
  | _ => none
def dueM (d : DefM) : He.FnW := some (d.nm, d.ql, d.pa, .stmts d.bo, d.sc, mainGlobals, [], builtinsNs)
def okM (K : Frg) (d : DefM) : Bool := PySem.W.keepIn K (.ref (d.ad K)) && (match K.lookup (d.ad K) with
  | some ⟨_, _, .func u, _⟩ => PySem.W.codeIn K u.code d.ql && He.dflB K u.defaults (d.df.map (He.Dv.v K))
  | _ => false)
theorem both {a b : Bool} (h : (a && b) = true) : a = true ∧ b = true := Bool.and_eq_true_iff.mp h
theorem funM {K : Frg} {d : DefM} (e : seeM K d = dueM d) (c : okM K d = true) : ∃ fd, FunD K d.nm d.ql d.pa d.bo d.sc (d.df.map (He.Dv.v K)) [] (d.ad K) fd := by
  have kp := (both c).1
  have c2 := (both c).2
  unfold seeM dueM at e
  split at c2
  · rename_i x1 x2 u x3 hL
    rw [hL] at e
    obtain ⟨n1, n2, n3, n4, n5, n6, n7, n8, n9, n10, n11, n12, n13, n14, n15⟩ := u
    simp only [Option.some.injEq, Prod.mk.injEq] at e
    obtain ⟨h1, h2, h3, h4, h5, h6, h7, h8⟩ := e
    subst h1 h2 h3 h4 h5 h6 h7 h8
    have k := both c2
    exact ⟨_, ⟨x1, x2, n8, n9, n10, n11, n12, n13, n14, x3, rfl, hL, k.1, He.dflB_ok k.2, .inl rfl⟩, kp⟩
  · cases c2
/-- written data: none, truths, integers, texts, lists and tuples of them -/
def datB (K : Frg) : Nat → Value → PyData → Bool
  | 0, _, _ => false
  | n + 1, u, d => match u, d with
    | .none, .none => true
    | .bool b, .bool c => b == c
    | .int i _, .int j => decide (i = j)
    | .str x _, .str y => decide (x = y)
    | .ref a, .tuple ds => (match K.lookup a with
      | some ⟨.type c, _, .seq its _, _⟩ => decide (c = "tuple") && (decide (its.size ≤ sizeLine) && datAll (fun u d => datB K n u d) its.toList ds)
      | _ => false)
    | _, _ => false
where datAll (f : Value → PyData → Bool) : List Value → List PyData → Bool
  | [], [] => true
  | u :: us, d :: ds => f u d && datAll f us ds
  | _, _ => false
theorem datAll_ok {K : Frg} {f : Value → PyData → Bool} (hf : ∀ u d, f u d = true → ∃ x, RelV x u ∧ ∀ H, Dp K H x d) : ∀ (us : List Value) (ds : List PyData), datB.datAll f us ds = true → ∃ xs, Vals xs us ∧ ∀ H, DpAll K H xs ds
  | [], [], _ => ⟨[], .nil, fun _ => .nil⟩
  | u :: us, d :: ds, h => by
    unfold datB.datAll at h
    obtain ⟨x, r, k⟩ := hf u d (both h).1
    obtain ⟨xs, rs, ks⟩ := datAll_ok hf us ds (both h).2
    exact ⟨x :: xs, .cons r rs, fun H => .cons (k H) (ks H)⟩
  | [], _ :: _, h => by cases h
  | _ :: _, [], h => by cases h
theorem datB_ok {K : Frg} : ∀ (n : Nat) (u : Value) (d : PyData), datB K n u d = true → ∃ x, RelV x u ∧ ∀ H, Dp K H x d
  | 0, _, _, h => by cases h
  | n + 1, u, d, h => by
    unfold datB at h
    match u, d, h with
    | .none, .none, _ => exact ⟨.non, rfl, fun _ => .non⟩
    | .bool b, .bool c, h =>
      have e : b = c := eq_of_beq h
      subst e
      exact ⟨.bl b, rfl, fun _ => .bl b⟩
    | .int i t, .int j, h =>
      have e : i = j := of_decide_eq_true h
      subst e
      exact ⟨.int i, ⟨t, rfl⟩, fun _ => .int i⟩
    | .str x t, .str y, h =>
      have e : x = y := of_decide_eq_true h
      subst e
      exact ⟨.str x, ⟨t, rfl⟩, fun _ => .str x⟩
    | .ref a, .tuple ds, h =>
      have h' : (match K.lookup a with
        | some ⟨.type c, _, .seq its _, _⟩ => decide (c = "tuple") && (decide (its.size ≤ sizeLine) && datB.datAll (fun u d => datB K n u d) its.toList ds)
        | _ => false) = true := h
      split at h'
      · rename_i c x2 its m x3 hL
        have h1 := (both h').1
        have h2 := (both (both h').2).1
        obtain ⟨xs, rs, ks⟩ := datAll_ok (datB_ok n) its.toList ds (both (both h').2).2
        exact ⟨.ref a, rfl, fun H => .tup (.inr ⟨_, its, m, hL, congrArg Value.type (of_decide_eq_true h1), rfl, of_decide_eq_true h2, rs⟩) (ks H)⟩
      · cases h'
/-- a name of the module that stands for such data -/
def conB (K : Frg) (x : Str) (d : PyData) : Bool := match PySem.W.nsIn K mainGlobals x with
  | some (some u) => datB K 8 u d
  | _ => false
theorem conM {K : Frg} {h : Heap} {mg : Str → Option Value} {x : Str} {d : PyData} (X : K.In h) (G : h.Ns mainGlobals mg) (c : conB K x d = true) : ∃ v u, mg x = some u ∧ RelV v u ∧ ∀ H, Dp K H v d := by
  unfold conB at c
  split at c
  · rename_i u hL
    obtain ⟨v, r, k⟩ := datB_ok 8 u d c
    exact ⟨v, u, PySem.W.mg_of X G hL, r, k⟩
  · cases c
/-- a property of a class -/
def prB (K : Frg) (C f : Str) : Bool := He.eqO (PySem.W.findIn K (.ref (He.ga K C)) f) (some (some (.ref (He.ma K (He.ga K C) f)))) &&
  (He.eqO (PySem.W.specialIn K (.ref (He.ma K (He.ga K C) f)) "__get__") (some (some (.builtin "property.__get__"))) && (decide (PySem.W.takesIn K (.ref (He.ma K (He.ga K C) f)) = some true) &&
  (match PySem.W.recIn K (He.ma K (He.ga K C) f) "property" with
    | some (.ref _ :: _) => true
    | _ => false)))
theorem prM {K : Frg} {C f : Str} (h : prB K C f = true) : PropOf K (He.ga K C) f (He.ma K (He.ga K C) f) (prAd C f K) := by
  obtain ⟨h1, h⟩ := both h
  obtain ⟨h2, h⟩ := both h
  obtain ⟨h3, h4⟩ := both h
  refine ⟨He.eqO_ok h1, He.eqO_ok h2, of_decide_eq_true h3, ?_⟩
  unfold prAd
  split at h4
  · rename_i g r hL
    rw [hL]
    exact ⟨r, rfl⟩
  · cases h4
/-- no limit of digits is set -/
def digB (K : Frg) : Bool := PySem.W.nsOkIn K cStatics && He.eqO (PySem.W.nsIn K cStatics "sys.int_max_str_digits") (some none)
def DigK (K : Frg) : Prop := PySem.W.nsOkIn K cStatics = true ∧ PySem.W.nsIn K cStatics "sys.int_max_str_digits" = some none
theorem digK_ok {K : Frg} (h : digB K = true) : DigK K := ⟨(both h).1, He.eqO_ok (both h).2⟩
/-! the Hook -/
abbrev AlM : Type := Bool × List He.FnW
def frM (n : Nat) (g : Addr → Option Obj) : Frg := He.frG g (cStatics :: He.asD g n)
def obsM (fa : List He.Fa) (ex : Frg → Bool) (fn : List DefM) (K : Frg) : AlM := ((fa.all fun x => x.ok K) && (ex K && fn.all fun d => okM K d), fn.map fun d => seeM K d)
def valM (fn : List DefM) : AlM := (true, fn.map dueM)
def SaysM (fa : List He.Fa) (ex : Frg → Bool) (fn : List DefM) (K : Frg) : Prop := obsM fa ex fn K = valM fn
def hookM (n : Nat) (fa : List He.Fa) (ex : Frg → Bool) (fn : List DefM) : PySem.W.Hook where
  α := AlM
  obs := fun s => obsM fa ex fn (frM n s.heap.get?)
  val := fun _ => valM fn
  says := fun _ h => ∃ K : Frg, K.In h ∧ SaysM fa ex fn K
  of := fun _ _ e => ⟨_, He.frG_in, e⟩
  keeps := fun _ _ _ ⟨K, hK, c⟩ k => ⟨K, PySem.W.Frag.In.keeps hK k, c⟩
theorem obsM_eq {n : Nat} {fa : List He.Fa} {ex : Frg → Bool} {fn : List DefM} {g : Addr → Option Obj} {s : Shared} (h : ∀ a, g a = s.heap.get? a) : obsM fa ex fn (frM n g) = (hookM n fa ex fn).obs s := by
  have e : g = s.heap.get? := funext h
  subst e
  rfl
section
variable {fa : List He.Fa} {ex : Frg → Bool} {fn : List DefM} {K : Frg}
theorem SaysM.fact (c : SaysM fa ex fn K) (i : Nat) {x : He.Fa} (h : fa[i]? = some x) : x.ok K = true :=
  List.all_eq_true.mp (both (congrArg Prod.fst c : ((fa.all fun x => x.ok K) && (ex K && fn.all fun d => okM K d)) = true)).1 x (List.mem_of_getElem? h)
theorem SaysM.more (c : SaysM fa ex fn K) : ex K = true := (both (both (congrArg Prod.fst c : ((fa.all fun x => x.ok K) && (ex K && fn.all fun d => okM K d)) = true)).2).1
theorem SaysM.def_ (c : SaysM fa ex fn K) (i : Nat) {d : DefM} (h : fn[i]? = some d) : ∃ fd, FunD K d.nm d.ql d.pa d.bo d.sc (d.df.map (He.Dv.v K)) [] (d.ad K) fd := by
  have c2 := (both (both (congrArg Prod.fst c : ((fa.all fun x => x.ok K) && (ex K && fn.all fun d => okM K d)) = true)).2).2
  have e2 : (fn.map fun d => seeM K d)[i]? = (fn.map dueM)[i]? := congrArg (fun z : AlM => z.2[i]?) c
  simp only [List.getElem?_map, h, Option.map_some, Option.some.injEq] at e2
  exact funM e2 (List.all_eq_true.mp c2 d (List.mem_of_getElem? h))
end

/-! ### a dict that the module's top writes: keys integers and texts -/
section
open PySem PySem.Spec PyProof.Rows L2
def TabAt (K : PySem.W.Frag) (w : World) (a : Addr) (kvs : List (Key × V)) : Prop := (a == sysModules) = false ∧ ∃ vs : List (Key × Value), KV kvs vs ∧ ∀ (P : Program) (h : Heap), K.In h → h.DictOf (mixKind P w) a vs
def tKGet (K : PySem.W.Frag) (w : World) (td ty tx : TE) : TE := fun σ H Q => td σ H fun x H1 => ∃ a kvs, x = .ref a ∧ TabAt K w a kvs ∧ ty σ H1 fun y H2 => tx σ H2 fun z H3 => ∃ k, y = kV k ∧ Q ((valV kvs k).getD z) H3
def tKIx (K : PySem.W.Frag) (w : World) (td ty : TE) : TE := fun σ H Q => td σ H fun x H1 => ty σ H1 fun y H2 => ∃ a kvs k v, x = .ref a ∧ TabAt K w a kvs ∧ y = kV k ∧ valV kvs k = some v ∧ Q v H2
def tKIn (K : PySem.W.Frag) (w : World) (ty td : TE) : TE := fun σ H Q => ty σ H fun y H1 => td σ H1 fun x H2 => ∃ a kvs k, x = .ref a ∧ TabAt K w a kvs ∧ y = kV k ∧ Q (.bl (valV kvs k).isSome) H2
section
variable {X : Cx} {o e f : Expr} {apos cpos : Pos} {td ty tx : TE}
theorem dictOf_free {P : Program} {w : World} {h : Heap} {a : Addr} {vs : List (Key × Value)} (d : h.DictOf (mixKind P w) a vs) : ∃ ob, h.get? a = some ob ∧ ob.dict = none := by
  obtain ⟨ob, _, _, h1, h2, _⟩ := d
  exact ⟨ob, h1, h2.2.1⟩
theorem pe_kget2 (ho : PE X o td) (he : PE X e ty) (hf : PE X f tx) (m : M2 X o "get" apos e f cpos) : PE X (.Call (.Attribute o "get" apos) [e, f] [] cpos) (tKGet X.K X.w td ty tx) := by
  refine ⟨fun pins s σ H Q I h => ?_⟩
  refine wpAny_Call_method m.base m.few m.line PySem.F.plainAttrs_dict PySem.F.slot_dict_get PySem.F.type_dict_get (thn (ho.run pins s σ H _ I h) fun u s1 ⟨x, H1, I1, rx, a, kvs, ex, ⟨hd, vs, rel, dd⟩, q1⟩ => ?_)
  subst ex
  obtain rfl : u = Value.ref a := rx
  have d1 := dd X.prog s1.heap I1.kIn
  refine ⟨d1.typeIs, fun b q => ?_, ?_⟩
  · cases q
    exact dictOf_free d1
  rw [m.trees]
  refine Calls.callWith_builtin rfl (Calls.evalArgs_plain (Calls.spliced_cons (thn (he.run pins s1 σ H1 _ I1 q1) fun iv s2 ⟨y, H2, I2, ry, q2⟩ =>
    Calls.spliced_cons (thn (hf.run pins s2 σ H2 _ I2 q2) fun fv s3 ⟨z, H3, I3, rz, k, ey, q3⟩ => Calls.spliced_nil ?_))))
  subst ey
  have d3 := dd X.prog s3.heap I3.kIn
  refine call_meetsIn PySem.F.slot_dict_get d3.typeIs PySem.F.entry_dict_get (PySem.F.args_dict_get_3 _ _ _) (meets_dict_get_default (mixKind X.prog X.w) a (kV_is ry) hd fv) ⟨_, d3.mapOf, ⟨_, H3, I3.tok _, ?_, q3⟩⟩
  exact (rel.val k).getD rz
theorem pe_kix (ho : PE X o td) (hi : PE X e ty) (hs : NoSl e) : PE X (.Subscript o e cpos) (tKIx X.K X.w td ty) := by
  refine ⟨fun pins s σ H Q I h => ?_⟩
  refine subD_of PySem.F.slot_dict_getitem.lookup hs (thn (ho.run pins s σ H _ I h) fun u s1 ⟨x, H1, I1, rx, q1⟩ => thn (hi.run pins s1 σ H1 _ I1 q1) fun iv s2 ⟨y, H2, I2, ry, a, kvs, k, v, ex, ⟨hd, vs, rel, dd⟩, ey, l, q2⟩ => ?_)
  subst ex
  subst ey
  obtain rfl : u = Value.ref a := rx
  have d2 := dd X.prog s2.heap I2.kIn
  obtain ⟨w', hw, rw'⟩ := RelO.some_of (v := v) (o := valueAt vs k) (by rw [← l]; exact rel.val k)
  exact ⟨d2.typeIs, wpAny_getItem_of (kV_is ry) d2.mapOf hw ⟨v, H2, I2.tok _, rw', q2⟩⟩
theorem pc_kin (hi : PE X e ty) (ho : PE X o td) : PC X .In e o (tKIn X.K X.w ty td) := by
  refine ⟨fun pins s σ H Q I h => ?_⟩
  refine thn (hi.run pins s σ H _ I h) fun iv s1 ⟨y, H1, I1, ry, q1⟩ => thn (ho.run pins s1 σ H1 _ I1 q1) fun u s2 ⟨x, H2, I2, rx, a, kvs, k, ex, ⟨hd, vs, rel, dd⟩, ey, q2⟩ => ?_
  subst ex
  subst ey
  obtain rfl : u = Value.ref a := rx
  have d2 := dd X.prog s2.heap I2.kIn
  refine wpAny_in_of (kV_is ry) hd d2.mapOf ?_
  rw [← (rel.val k).isSome_eq]
  exact ⟨.bl _, H2, I2.tok _, rfl, q2⟩
end
/-! .. keys tuples of integers and texts -/
def KTk : List (List Key × V) → List (List Key × Addr × Value) → Prop := Paired fun (p : List Key × V) (q : List Key × Addr × Value) => p.1 = q.1 ∧ RelV p.2 q.2.2
theorem KTk.val {kvs : List (List Key × V)} {xs : List (List Key × Addr × Value)} (r : KTk kvs xs) (k : List Key) : RelO (valV kvs k) ((atKey xs k).map (·.2)) := by
  induction r with
  | nil => exact True.intro
  | @cons p q ps qs h t ih =>
    obtain ⟨h1, h2⟩ := h
    by_cases e : p.1 = k
    · have e' : q.1 = k := h1.symm.trans e
      have b : atKey (q :: qs) k = some q.2 := by simp [atKey, List.find?_cons, e']
      rw [valV_pos e, b]; exact h2
    · have e' : ¬ q.1 = k := fun z => e (h1.trans z)
      have b : atKey (q :: qs) k = atKey qs k := by simp [atKey, List.find?_cons, e']
      rw [valV_neg e, b]; exact ih
def TabTAt (K : PySem.W.Frag) (w : World) (a : Addr) (kvs : List (List Key × V)) : Prop := (a == sysModules) = false ∧ ∃ xs : List (List Key × Addr × Value), KTk kvs xs ∧ ∀ (P : Program) (h : Heap), K.In h → h.DictOfH (tupleKind (mixKind P w)) a xs
def tKGetT (K : PySem.W.Frag) (w : World) (td ty tx : TE) : TE := fun σ H Q => td σ H fun x H1 => ∃ a kvs, x = .ref a ∧ TabTAt K w a kvs ∧ ty σ H1 fun y H2 => tx σ H2 fun z H3 => ∃ b ks, y = .ref b ∧ H3 b = some (.tup (ks.map kV)) ∧ Q ((valV kvs ks).getD z) H3
section
variable {X : Cx} {o e f : Expr} {apos cpos : Pos} {td ty tx : TE}
theorem pe_kget2T (hu : X.A.units + 1 < cLine) (ho : PE X o td) (he : PE X e ty) (hf : PE X f tx) (m : M2 X o "get" apos e f cpos) : PE X (.Call (.Attribute o "get" apos) [e, f] [] cpos) (tKGetT X.K X.w td ty tx) := by
  refine ⟨fun pins s σ H Q I h => ?_⟩
  refine wpAny_Call_method m.base m.few m.line PySem.F.plainAttrs_dict PySem.F.slot_dict_get PySem.F.type_dict_get (thn (ho.run pins s σ H _ I h) fun u s1 ⟨x, H1, I1, rx, a, kvs, ex, ⟨hd, xs, rel, dd⟩, q1⟩ => ?_)
  subst ex
  obtain rfl : u = Value.ref a := rx
  have d1 := dd X.prog s1.heap I1.kIn
  refine ⟨d1.typeIs, fun b q => ?_, ?_⟩
  · cases q
    obtain ⟨ob, _, _, h1, h2, _⟩ := d1
    exact ⟨ob, h1, h2.2.1⟩
  rw [m.trees]
  refine Calls.callWith_builtin rfl (Calls.evalArgs_plain (Calls.spliced_cons (thn (he.run pins s1 σ H1 _ I1 q1) fun iv s2 ⟨y, H2, I2, ry, q2⟩ =>
    Calls.spliced_cons (thn (hf.run pins s2 σ H2 _ I2 q2) fun fv s3 ⟨z, H3, I3, rz, b, ks, ey, eb, q3⟩ => Calls.spliced_nil ?_))))
  subst ey
  obtain rfl : iv = Value.ref b := ry
  have d3 := dd X.prog s3.heap I3.kIn
  refine call_meetsIn PySem.F.slot_dict_get d3.typeIs PySem.F.entry_dict_get (PySem.F.args_dict_get_3 _ _ _) (meetsH_dict_get_default (tupleKind (mixKind X.prog X.w)) a b hd fv) ⟨tupleKind_room_in1 hu, ks, xs, key_of I3.hok eb, d3, ⟨_, H3, I3.tok _, ?_, q3⟩⟩
  exact (rel.val ks).getD rz
end
end
section
open PySem PySem.Spec PyProof.Rows L2
abbrev KeyX : Type := Sum Key (List Key)
def hashX (w : World) : KeyX → Int
  | .inl k => keyH w k
  | .inr ks => reduceHash (Builtin.Tuple.tupleHashOf (ks.map (keyH w)))
def keyV : Value → Option Key
  | .str x _ => some (.inr x)
  | .int i _ => some (.inl i)
  | _ => none
def keyL : List Value → Option (List Key)
  | [] => some []
  | v :: r => match keyV v, keyL r with
    | some k, some ks => some (k :: ks)
    | _, _ => none
def keyX (K : PySem.W.Frag) : Value → Option KeyX
  | .ref b => (match K.lookup b with
    | some ⟨.type c, _, .seq its _, _⟩ => (match decide (c = "tuple") with
      | true => (match keyL its.toList with
        | some ks => some (.inr ks)
        | none => none)
      | false => none)
    | _ => none)
  | v => (match keyV v with
    | some k => some (.inl k)
    | none => none)
def tabE (K : PySem.W.Frag) (e : DictEntry) : Option (KeyX × Int) := match keyX K e.key with
  | some k => some (k, e.hash)
  | none => none
def tabW (K : PySem.W.Frag) (a : Addr) : Option (List (Option (KeyX × Int))) := match K.lookup a with
  | some ⟨.type c, none, .dict es _, sl⟩ => (match decide (c = "dict") && (sl.isEmpty && !(a == sysModules)) with
    | true => some (es.toList.map (tabE K))
    | false => none)
  | _ => none
def keysX (w : World) (ks : List KeyX) : List (Option (KeyX × Int)) := ks.map fun k => some (k, hashX w k)
def relAllB : List V → List Value → Bool
  | [], [] => true
  | x :: xs, u :: us => He.relB x u && relAllB xs us
  | _, _ => false
def tabV (K : PySem.W.Frag) (a : Addr) (xs : List V) : Bool := match K.lookup a with
  | some ⟨_, _, .dict es _, _⟩ => relAllB xs (es.toList.map (·.val))
  | _ => false
theorem tabW_obj {K : PySem.W.Frag} {a : Addr} {l : List (Option (KeyX × Int))} (h : tabW K a = some l) : ∃ es n, K.lookup a = some ⟨.type "dict", none, .dict es n, #[]⟩ ∧ es.toList.map (tabE K) = l ∧ (a == sysModules) = false := by
  unfold tabW at h
  cases q : K.lookup a with
  | none =>
    rw [q] at h
    cases h
  | some o =>
    obtain ⟨oc, od, dt, osl⟩ := o
    rw [q] at h
    cases oc with
    | type c =>
      cases od with
      | none =>
        cases dt with
        | dict es n =>
          have h1 : (match decide (c = "dict") && (osl.isEmpty && !(a == sysModules)) with
            | true => some (es.toList.map (tabE K))
            | false => none) = some l := h
          cases z : decide (c = "dict") && (osl.isEmpty && !(a == sysModules)) with
          | false =>
            rw [z] at h1
            cases h1
          | true =>
            rw [z] at h1
            obtain ⟨z1, z2⟩ := both z
            obtain ⟨z3, z4⟩ := both z2
            have e1 : c = "dict" := of_decide_eq_true z1
            have e2 : osl = #[] := Array.isEmpty_iff.mp z3
            have e3 : (a == sysModules) = false := by
              cases y : a == sysModules with
              | false => rfl
              | true =>
                rw [y] at z4
                cases z4
            subst e1 e2
            exact ⟨es, n, rfl, Option.some.inj h1, e3⟩
        | _ => cases h
      | some b => cases dt <;> cases h
    | _ => cases od <;> cases dt <;> cases h
theorem keyV_is {v : Value} {k : Key} (h : keyV v = some k) : keyIs k v = true := by
  unfold keyV at h
  split at h
  · cases h
    exact keyIs_str _ _
  · cases h
    exact keyIs_int _ _
  · cases h
theorem keyX_inl {K : PySem.W.Frag} {v : Value} {k : Key} (h : keyX K v = some (.inl k)) : keyIs k v = true := by
  unfold keyX at h
  split at h
  · split at h
    · split at h
      · split at h <;> cases h
      · cases h
    · cases h
  · split at h
    · rename_i k0 q
      cases h
      exact keyV_is q
    · cases h
theorem keyX_inr {K : PySem.W.Frag} {v : Value} {ks : List Key} (h : keyX K v = some (.inr ks)) : ∃ (b : Addr) (o : Obj) (its : Array Value) (n : Nat), v = .ref b ∧ K.lookup b = some o ∧ o.cls = .type "tuple" ∧ o.data = .seq its n ∧ keyL its.toList = some ks := by
  unfold keyX at h
  split at h
  · rename_i b
    split at h
    · rename_i c d its n sl hL
      split at h
      · rename_i hc
        split at h
        · rename_i ks0 q
          cases h
          have hc : c = "tuple" := of_decide_eq_true hc
          subst hc
          exact ⟨_, _, its, n, rfl, hL, rfl, rfl, q⟩
        · cases h
      · cases h
    · cases h
  · split at h <;> cases h
theorem tabE_of {K : PySem.W.Frag} {e : DictEntry} {k : KeyX} {z : Int} (h : tabE K e = some (k, z)) : keyX K e.key = some k ∧ e.hash = z := by
  unfold tabE at h
  split at h
  · rename_i k0 q
    have h1 := Option.some.inj h
    obtain ⟨h2, h3⟩ := Prod.mk.inj h1
    exact ⟨by rw [q, h2], h3⟩
  · cases h
theorem kv_zip : ∀ (xs : List V) (us : List Value), relAllB xs us = true → ∀ {κ : Type} (ks : List κ), KV (ks.zip xs) (ks.zip us)
  | [], [], _, _, ks => by
    cases ks <;> exact .nil
  | x :: xs, u :: us, h, _, [] => .nil
  | x :: xs, u :: us, h, _, k :: ks => .cons ⟨rfl, He.relB_ok (both h).1⟩ (kv_zip xs us (both h).2 ks)
  | [], _ :: _, h, _, _ => by cases h
  | _ :: _, [], h, _, _ => by cases h
theorem tab_pairs {P : Program} {w : World} {K : PySem.W.Frag} : ∀ (l : List DictEntry) (ks : List Key), l.map (tabE K) = keysX w (ks.map .inl) →
    Pairs (mixKind P w) l (ks.zip (l.map (·.val))) ∧ (∀ e ∈ l, ∃ k, (mixKind P w).is k e.key = true ∧ e.hash = (mixKind P w).hash k) ∧ l.length = ks.length
  | [], [], _ => ⟨.nil, fun _ h => absurd h (by simp), rfl⟩
  | [], _ :: _, h => by cases h
  | _ :: _, [], h => by cases h
  | e :: l, k :: ks, h => by
    have h1 : tabE K e :: l.map (tabE K) = some (.inl k, hashX w (.inl k)) :: keysX w (ks.map .inl) := h
    injection h1 with h2 h3
    obtain ⟨a1, a2⟩ := tabE_of h2
    have a1 := keyX_inl a1
    obtain ⟨p1, p2, p3⟩ := tab_pairs (P := P) l ks h3
    refine ⟨.cons a1 rfl p1, fun x hx => ?_, congrArg (· + 1) p3⟩
    rcases List.mem_cons.mp hx with q | q
    · rw [q]
      exact ⟨k, a1, a2⟩
    · exact p2 x q
theorem fst_zip {α β : Type} : ∀ (ks : List α) (us : List β), us.length = ks.length → (ks.zip us).map (·.1) = ks
  | [], _, _ => by simp
  | k :: ks, [], h => by cases h
  | k :: ks, u :: us, h => by
    show k :: (ks.zip us).map (·.1) = k :: ks
    rw [fst_zip ks us (Nat.succ.inj h)]
theorem tab_ok {w : World} {K : PySem.W.Frag} {a : Addr} {ks : List Key} {xs : List V} (h : tabW K a = some (keysX w (ks.map .inl))) (hv : tabV K a xs = true) (nd : ks.Nodup) : TabAt K w a (ks.zip xs) := by
  obtain ⟨es, n, hK, he, hs⟩ := tabW_obj h
  unfold tabV at hv
  rw [hK] at hv
  have hv : relAllB xs (es.toList.map (·.val)) = true := hv
  refine ⟨hs, ks.zip (es.toList.map (·.val)), kv_zip _ _ hv ks, fun P hp hin => ?_⟩
  obtain ⟨p1, p2, p3⟩ := tab_pairs (P := P) es.toList ks he
  refine ⟨_, es, n, hin a _ hK, ⟨rfl, rfl, rfl⟩, rfl, fun e hm => p2 e (Array.mem_toList_iff.mpr hm), p1, ?_⟩
  rw [fst_zip _ _ (by rw [List.length_map]; exact p3)]
  exact nd
theorem keyL_are {P : Program} {w : World} : ∀ (l : List Value) (ks : List Key), keyL l = some ks → ItemsAre (mixKind P w) ks l
  | [], ks, h => by
    cases h
    exact .nil
  | v :: l, ks, h => by
    unfold keyL at h
    split at h
    · rename_i k ks0 q1 q2
      cases h
      exact .cons (keyV_is q1) (keyL_are l _ q2)
    · cases h
theorem tab_ents {P : Program} {w : World} {K : PySem.W.Frag} : ∀ (l : List DictEntry) (ks : List (List Key)) (ys : List V), l.map (tabE K) = keysX w (ks.map .inr) → relAllB ys (l.map (·.val)) = true →
    ∃ xs : List (List Key × Addr × Value), l = xs.map (entryOfKey (tupleKind (mixKind P w))) ∧ (∀ x ∈ xs, ∃ (o : Obj) (its : Array Value) (n : Nat), K.lookup x.2.1 = some o ∧ o.cls = .type "tuple" ∧ o.data = .seq its n ∧ keyL its.toList = some x.1) ∧ xs.map (·.1) = ks ∧ KTk (ks.zip ys) xs
  | [], [], [], _, _ => ⟨[], rfl, fun _ h => absurd h (by simp), rfl, .nil⟩
  | [], [], _ :: _, _, h => by cases h
  | [], _ :: _, _, h, _ => by cases h
  | _ :: _, [], _, h, _ => by cases h
  | _ :: _, _ :: _, [], _, h => by cases h
  | e :: l, k :: ks, y :: ys, h, hv => by
    have h1 : tabE K e :: l.map (tabE K) = some (.inr k, hashX w (.inr k)) :: keysX w (ks.map .inr) := h
    injection h1 with h2 h3
    obtain ⟨a1, a2⟩ := tabE_of h2
    obtain ⟨b, o, its, n, c1, c2, c3, c4, c5⟩ := keyX_inr a1
    have hv : (He.relB y e.val && relAllB ys (l.map (·.val))) = true := hv
    obtain ⟨xs, d1, d2, d3, d4⟩ := tab_ents (P := P) l ks ys h3 (both hv).2
    refine ⟨(k, b, e.val) :: xs, ?_, fun x hx => ?_, congrArg (k :: ·) d3, .cons ⟨rfl, He.relB_ok (both hv).1⟩ d4⟩
    · obtain ⟨eh, ek, ev⟩ := e
      have c1 : ek = .ref b := c1
      have a2 : eh = hashX w (.inr k) := a2
      rw [c1, a2, d1]
      rfl
    · rcases List.mem_cons.mp hx with q | q
      · rw [q]
        exact ⟨o, its, n, c2, c3, c4, c5⟩
      · exact d2 x q
theorem tab_okT {w : World} {K : PySem.W.Frag} {a : Addr} {ks : List (List Key)} {ys : List V} (h : tabW K a = some (keysX w (ks.map .inr))) (hv : tabV K a ys = true) (nd : ks.Nodup) : TabTAt K w a (ks.zip ys) := by
  obtain ⟨es, n, hK, he, hs⟩ := tabW_obj h
  unfold tabV at hv
  rw [hK] at hv
  have hv : relAllB ys (es.toList.map (·.val)) = true := hv
  obtain ⟨xs, d1, d2, d3, d4⟩ := tab_ents (P := default) es.toList ks ys he hv
  refine ⟨hs, xs, d4, fun P hp hin => ⟨_, es, n, hin a _ hK, ⟨rfl, rfl, rfl⟩, rfl, d1, fun x hx => ?_, by rw [d3]; exact nd⟩⟩
  obtain ⟨o, its, m, c1, c2, c3, c4⟩ := d2 x hx
  exact ⟨o, its, m, hin _ _ c1, c2, c3, keyL_are _ _ c4⟩
end

/-! ### the Hook with such dicts -/
abbrev TabX : Type := Str × List KeyX
abbrev AlX : Type := AlM × List (Option (List (Option (KeyX × Int))))
def obsX (fa : List He.Fa) (ex : Frg → Bool) (fn : List DefM) (ts : List TabX) (K : Frg) : AlX := (obsM fa ex fn K, ts.map fun t => tabW K (He.ga K t.1))
def valX (fn : List DefM) (ts : List TabX) (w : World) : AlX := (valM fn, ts.map fun t => some (keysX w t.2))
def SaysX (fa : List He.Fa) (ex : Frg → Bool) (fn : List DefM) (ts : List TabX) (w : World) (K : Frg) : Prop := obsX fa ex fn ts K = valX fn ts w
def hookX (n : Nat) (fa : List He.Fa) (ex : Frg → Bool) (fn : List DefM) (ts : List TabX) : PySem.W.Hook where
  α := AlX
  obs := fun s => obsX fa ex fn ts (frM n s.heap.get?)
  val := fun w => valX fn ts w
  says := fun w h => ∃ K : Frg, K.In h ∧ SaysX fa ex fn ts w K
  of := fun _ _ e => ⟨_, He.frG_in, e⟩
  keeps := fun _ _ _ ⟨K, hK, c⟩ k => ⟨K, PySem.W.Frag.In.keeps hK k, c⟩
theorem obsX_eq {n : Nat} {fa : List He.Fa} {ex : Frg → Bool} {fn : List DefM} {ts : List TabX} {g : Addr → Option Obj} {s : Shared} (h : ∀ a, g a = s.heap.get? a) : obsX fa ex fn ts (frM n g) = (hookX n fa ex fn ts).obs s := by
  have e : g = s.heap.get? := funext h
  subst e
  rfl
section
variable {fa : List He.Fa} {ex : Frg → Bool} {fn : List DefM} {ts : List TabX} {w : World} {K : Frg}
theorem SaysX.m (c : SaysX fa ex fn ts w K) : SaysM fa ex fn K := congrArg (fun z : AlX => z.1) c
theorem SaysX.tab (c : SaysX fa ex fn ts w K) (i : Nat) {t : TabX} (h : ts[i]? = some t) : tabW K (He.ga K t.1) = some (keysX w t.2) := by
  have e : ts.map (fun t => tabW K (He.ga K t.1)) = ts.map fun t => some (keysX w t.2) := congrArg (fun z : AlX => z.2) c
  have e2 : (ts.map fun t => tabW K (He.ga K t.1))[i]? = (ts.map fun t => some (keysX w t.2))[i]? := by rw [e]
  rw [List.getElem?_map, List.getElem?_map, h] at e2
  exact Option.some.inj e2
end
/-! ### a display of a dict asks the world one thing: both answers are run -/
def setF (w : World) (b : Bool) : World := { w with params := { w.params with followText := fun x => if x = "special-get-raises" then b else w.params.followText x } }
theorem setF_eq (w : World) : setF w (w.params.followText "special-get-raises") = w := by
  have e : (fun x => if x = "special-get-raises" then w.params.followText "special-get-raises" else w.params.followText x) = w.params.followText := by
    funext x
    by_cases h : x = "special-get-raises"
    · rw [if_pos h, h]
    · rw [if_neg h]
  show ({ w with params := { w.params with followText := fun x => if x = "special-get-raises" then w.params.followText "special-get-raises" else w.params.followText x } } : World) = w
  rw [e]

/-! ### own exceptions with one field; defs that raise -/
def oexB (K : Frg) (C : Addr) : Bool := match K.lookup C with
  | some ⟨.type t, _, .cls cd, sl⟩ => decide (t = "type") && (match cd.mro, sl.toList with
    | .ref c :: bm, [_, _, _, _, some (.builtin n), _] => decide (c = C) && (decide (n = "ValueError.__new__") && (!cd.hasDel && (cd.hasDict && PySem.HandSPX.refsVE bm)))
    | _, _ => false)
  | _ => false
theorem oexM {K : Frg} {C : Addr} (h : oexB K C = true) : ∃ nm q N bs bm sn sub ab col dd k0 k1 k2 k3 k5, K.lookup C = some (excClassObj nm q C N bs bm true sn sub ab col dd k0 k1 k2 k3 k5 "ValueError.__new__") ∧ PySem.HandSPX.refsVE bm = true := by
  unfold oexB at h
  split at h
  · rename_i t dd cd sl ho
    obtain ⟨h1, h⟩ := both h
    have h1 : t = "type" := of_decide_eq_true h1
    split at h
    · rename_i c bm k0 k1 k2 k3 n k5 hm hs
      obtain ⟨h2, h⟩ := both h
      obtain ⟨h3, h⟩ := both h
      obtain ⟨h4, h⟩ := both h
      obtain ⟨h5, h6⟩ := both h
      have h2 : c = C := of_decide_eq_true h2
      have h3 : n = "ValueError.__new__" := of_decide_eq_true h3
      obtain ⟨nm, bs, mro, ns, qn, hd, sn, sub, ab, col, del⟩ := cd
      dsimp only at hm h4 h5
      have h4 : del = false := by cases del <;> first | rfl | cases h4
      subst hm h4 h5 h1 h2 h3
      have hsl : sl = #[k0, k1, k2, k3, some (.builtin "ValueError.__new__"), k5] := by
        obtain ⟨l⟩ := sl
        simp only at hs
        rw [hs]
      subst hsl
      exact ⟨nm, qn, ns, bs, bm, sn, sub, ab, col, dd, k0, k1, k2, k3, k5, ho, h6⟩
    · cases h
  · cases h
/-- the class at C may be raised with one field f; its __init__ stands at fI -/
structure ExcK (K : Frg) (C fI : Addr) (f : Str) : Prop where
  oex : OexC K C
  ini : PySem.W.findIn K (.ref C) "__init__" = some (some (.ref fI))
  tI : PySem.W.typeIn K (.ref fI) = some (.type "function")
  no : PySem.W.findIn K (.ref C) f = some none
  xf : XfC K C
  te : PySem.W.exmOne K (.ref C) (.ref C) = some true
def exkB (K : Frg) (C fI : Addr) (f : Str) : Bool := oexB K C && (He.eqO (PySem.W.findIn K (.ref C) "__setattr__") (some (some (.builtin "object.__setattr__"))) && (decide (PySem.W.subIn K (.ref C) (.type "BaseException") = some true) &&
  (decide (PySem.W.typeIn K (.ref C) = some (.type "type")) && (PySem.W.keepIn K (.ref C) && (He.eqO (PySem.W.findIn K (.ref C) "__init__") (some (some (.ref fI))) && (decide (PySem.W.typeIn K (.ref fI) = some (.type "function")) &&
  (He.eqO (PySem.W.findIn K (.ref C) f) (some none) && (xfB K C && decide (PySem.W.exmOne K (.ref C) (.ref C) = some true)))))))))
theorem exkM {K : Frg} {C fI : Addr} {f : Str} (h : exkB K C fI f = true) : ExcK K C fI f := by
  obtain ⟨h1, h⟩ := both h
  obtain ⟨h2, h⟩ := both h
  obtain ⟨h3, h⟩ := both h
  obtain ⟨h4, h⟩ := both h
  obtain ⟨h5, h⟩ := both h
  obtain ⟨h6, h⟩ := both h
  obtain ⟨h7, h⟩ := both h
  obtain ⟨h8, h⟩ := both h
  obtain ⟨h9, h10⟩ := both h
  exact ⟨⟨oexM h1, He.eqO_ok h2, of_decide_eq_true h3, of_decide_eq_true h4, h5⟩, He.eqO_ok h6, of_decide_eq_true h7, He.eqO_ok h8, xfB_ok h9, of_decide_eq_true h10⟩
/-- __init__(self, f): self.f = f -/
def spExc (K : Frg) (f : Str) : Sp := fun vs H Q _ => ∃ (a C : Addr) (v : V), vs = [.ref a, v] ∧ OexC K C ∧ PySem.W.findIn K (.ref C) f = some none ∧ H a = some (exo a C none) ∧
  ∀ dx, H dx = none → dx ≠ a → Q .non (upd (upd H dx (exd dx [(f, v)])) a (exo a C (some dx)))
/-- an exception class of this name, ready to be raised -/
structure Raz (P : Program) (w : World) (K : Frg) (mg : Str → Option Value) (base : Heap) (x : Str) (C : Addr) (f : Str) : Prop where
  ex : ∃ (fI : Addr) (fd : FuncData), ExcK K C fI f ∧ mg x = some (.ref C) ∧ FnOk P w K mg base CX0 1 fI fd ["self", f] (spExc K f) ∧ Binds K fd ["self", f] []
/-- a def that may raise -/
structure CalX (P : Program) (w : World) (K : Frg) (mg : Str → Option Value) (base : Heap) (k : Nat) (x : Str) (sp : Sp) : Prop where
  ex : ∃ (f : Addr) (fd : FuncData) (ps : List Str), FnOk P w K mg base (L2.CX P w) k f fd ps sp ∧ mg x = some (.ref f) ∧ PySem.W.keepIn K (.ref f) = true ∧ Binds K fd ps []
/-- .. a method -/
structure MetX (P : Program) (w : World) (K : Frg) (mg : Str → Option Value) (base : Heap) (k : Nat) (C : Addr) (m : Str) (sp : Sp) : Prop where
  ex : ∃ (f : Addr) (fd : FuncData) (ps : List Str), Cls K C ∧ Meth K C m f ∧ FnOk P w K mg base (L2.CX P w) k f fd ps sp ∧ Binds K fd ps []
section
variable {P : Program} {w : World} {K : Frg} {mg : Str → Option Value} {base : Heap} {x qual : Str} {params : Arguments} {body : List Stmt} {scope : Scope} {f : Addr} {fd : FuncData} {N ps : List Str} {k : Nat} {sp : Sp} {C : Addr}
theorem calXD (F : FunD K x qual params body scope [] [] f fd) (m : mg x = some (.ref f)) (S : FnScope N ps scope)
    (hb : ∀ (kV doc pm : Value) (an : Option Addr) (cdv ct : Value) (us : List Value), us.length = ps.length → bindArgs (PySem.W.fnOf x qual params body scope .none kV doc pm an cdv ct) ⟨us, []⟩ = pure (ps.zip us))
    (len : ∀ vs H Q E, sp vs H Q E → vs.length = ps.length)
    (hbody : ∀ (cdv : Value) (A : Around) (outer : List Env) (s : Shared) (H : Hp) (vs : List V) (Q : VK) (E : XK), Room k (A.deeper (envOfC qual scope s.heap.objs.size f cdv)) → sp vs H Q E →
      ∃ t, PSs (cxOf (L2.CX P w) P w K mg base N qual scope f cdv A outer s H E) body t ∧ t { nx := fun _ H' => Q .non H', rt := Q } (start N vs) H) : CalX P w K mg base (k + 1) x sp :=
  ⟨f, fd, ps, F.ok S len hbody, m, F.kp, F.bindsN hb⟩
theorem metXD (F : FunD K x qual params body scope [] [] f fd) (cl : Cls K C) (me : Meth K C x f) (S : FnScope N ps scope)
    (hb : ∀ (kV doc pm : Value) (an : Option Addr) (cdv ct : Value) (us : List Value), us.length = ps.length → bindArgs (PySem.W.fnOf x qual params body scope .none kV doc pm an cdv ct) ⟨us, []⟩ = pure (ps.zip us))
    (len : ∀ vs H Q E, sp vs H Q E → vs.length = ps.length)
    (hbody : ∀ (cdv : Value) (A : Around) (outer : List Env) (s : Shared) (H : Hp) (vs : List V) (Q : VK) (E : XK), Room k (A.deeper (envOfC qual scope s.heap.objs.size f cdv)) → sp vs H Q E →
      ∃ t, PSs (cxOf (L2.CX P w) P w K mg base N qual scope f cdv A outer s H E) body t ∧ t { nx := fun _ H' => Q .non H', rt := Q } (start N vs) H) : MetX P w K mg base (k + 1) C x sp :=
  ⟨f, fd, ps, cl, me, F.ok S len hbody, F.bindsN hb⟩
end
def tMethS (C : Addr) (m : Str) (sp : Sp) (E : St → XK) (ta : TE) (t : TA) : TE := fun σ H Q => ta σ H fun x H1 => ∃ a dx fs, x = .ref a ∧ H1 a = some (.ins C dx fs) ∧ fs.lookup m = none ∧ t σ H1 fun vs H2 => sp (x :: vs) H2 Q (E σ)
section
variable {X : Cx} {k j : Nat} {C : Addr} {x m : Str} {sp : Sp} {W : WX} {p pos apos pos2 : Pos} {e o : Expr} {es : List Expr} {ta : TE} {t : TA}
theorem pe_cX (c : CalX X.prog X.w X.K X.mg X.base k x sp) (hr : Room j X.A) (hk : k ≤ j) (hg : Gl X x) (tk : Takes X W) (ha : PA X (e :: es) t)
    (hdb : (x == ("__debug__" : Str)) = false := by decide) (he : starEach (e :: es) X.env = (false, eval e X.env) :: starEach es X.env := by rfl) (hpl : (backTo pos (starEach es X.env)).any (·.1) = false := by rfl) :
    PE X (.Call (.Name x p) (e :: es) [] pos) (tCallS sp (WE W) t) := by
  obtain ⟨f, fd, ps, F, hm, kp, b⟩ := c.ex
  exact pe_callS F (hr.mono hk) hg hm kp b (fun σ => passAt tk σ) ha hdb he hpl
theorem pe_mtX {pl : Sem Bool} (c : MetX X.prog X.w X.K X.mg X.base k C m sp) (hr : Room j X.A) (hk : k ≤ j) (tk : Takes X W) (he : PE X o ta) (ha : PA X (e :: es) t)
    (hst : starEach (e :: es) X.env = (false, eval e X.env) :: starEach es X.env := by rfl) (hpl : (backTo pos (starEach es X.env)).any (·.1) = false := by rfl)
    (ht : eval (.Call (.Attribute o m apos) (e :: es) [] pos) X.env = (do
      let ov ← eval o X.env
      standAt apos.atName
      let (f, first) ← holding [ov] (getMethod ov m pl)
      callWith pos f first (backTo pos (starEach (e :: es) X.env)) (backToKw pos (keywordEach [] X.env))) := by rfl) :
    PE X (.Call (.Attribute o m apos) (e :: es) [] pos) (tMethS C m sp (WE W) ta t) := by
  obtain ⟨f, fd, ps, hc, hm, F, b⟩ := c.ex
  refine ⟨fun pins s σ H Q I h => ?_⟩
  refine PySem.W.methodCall_KW (pl := pl) (thn (he.run pins s σ H _ I h) fun u s1 ⟨x, H1, I1, rx, a, dx, fs, ex, ea, l, q⟩ => ?_) ht
  subst ex
  obtain rfl : u = Value.ref a := rx
  refine getmeth_ok I1 ea hc hm l ?_
  refine PySem.W.callWith_K (first := [.ref a]) (h₀ := X.base) I.ok.mod.kin hm.kp (thn (ha.run pos pins s1 σ H1 _ I1 q) fun us s2 ⟨vs, H2, I2, r, q2⟩ => ⟨I2.kIn, ?_⟩) hst hpl
  exact run_fnS (us := .ref a :: us) (vs := .ref a :: vs) F (hr.mono hk) b (passAt tk σ) I2 (.cons rfl r) q2
theorem pe_mtX0 {pl : Sem Bool} (c : MetX X.prog X.w X.K X.mg X.base k C m sp) (hr : Room j X.A) (hk : k ≤ j) (tk : Takes X W) (he : PE X o ta)
    (ht : eval (.Call (.Attribute o m apos) [] [] pos) X.env = (do
      let ov ← eval o X.env
      standAt apos.atName
      let (f, first) ← holding [ov] (getMethod ov m pl)
      callWith pos f first (backTo pos (starEach [] X.env)) (backToKw pos (keywordEach [] X.env))) := by rfl) :
    PE X (.Call (.Attribute o m apos) [] [] pos) (tMethS C m sp (WE W) ta tNil) := by
  obtain ⟨f, fd, ps, hc, hm, F, b⟩ := c.ex
  refine ⟨fun pins s σ H Q I h => ?_⟩
  refine PySem.W.methodCall_KW (pl := pl) (thn (he.run pins s σ H _ I h) fun u s1 ⟨x, H1, I1, rx, a, dx, fs, ex, ea, l, q⟩ => ?_) ht
  subst ex
  obtain rfl : u = Value.ref a := rx
  refine getmeth_ok I1 ea hc hm l ?_
  exact PySem.W.callWith_K0 (first := [.ref a]) I1.kIn hm.kp (run_fnS (us := [.ref a]) (vs := [.ref a]) F (hr.mono hk) b (passAt tk σ) I1 (.cons rfl .nil) q)
def tWeak (te : TE) : TE := fun σ H Q => ∃ Q' : VK, te σ H Q' ∧ ∀ v H1, Q' v H1 → Q v H1
theorem pe_weak (he : PE X e ta) : PE X e (tWeak ta) := ⟨fun pins s σ H Q I ⟨Q', h, m⟩ => wpAny_mono (he.run pins s σ H Q' I h) (fun _ _ ⟨v, H1, I1, r, q⟩ => ⟨v, H1, I1, r, m v H1 q⟩) fun _ _ z => z⟩
/-- raise C(e), C with one field -/
def tRaz (C : Addr) (f : Str) (W : WX) (te : TE) : TS := fun _ σ H => te σ H fun v H1 => ∀ d, H1 d = none → W (.ref C) (some d) σ (upd H1 d (.xd [(f, v)]))
theorem ps_raz {f : Str} (r : Raz X.prog X.w X.K X.mg X.base x C f) (hc : X.calm = true) (hr : Room j X.A) (hk : 2 ≤ j) (hg : Gl X x) (tk : Takes X W) (he : PE X e ta)
    (hdb : (x == ("__debug__" : Str)) = false := by decide) (hs : starEach (e :: []) X.env = (false, eval e X.env) :: starEach [] X.env := by rfl) (hpl : (backTo pos (starEach [] X.env)).any (·.1) = false := by rfl) :
    PS X (.Raise (some (.Call (.Name x p) [e] [] pos)) none pos2) (tRaz C f W ta) := by
  obtain ⟨fI, fd, T, hm, F, b⟩ := r.ex
  have he2 : PE X e (tWeak ta) := pe_weak he
  have z := ps_raise (pos := pos2) hc tk (pmk_oex (p := p) (pos := pos) T.oex T.ini T.tI F (hr.mono hk) b .nil pass0 hg hm (pa_cons he2 pa_nil hs) hdb hs hpl)
  refine ⟨fun pins s σ H D I h => z.run pins s σ H D I ?_⟩
  refine ⟨_, h, fun v H1 q => ⟨by show 1 ≤ 1000; decide, fun a ha => ⟨a, C, v, rfl, T.oex, T.no, upd_same, fun dx hd hne => ⟨rfl, dx, [(f, v)], upd_same, ?_, ?_, ?_⟩⟩⟩⟩
  · rw [upd_ne hne, upd_same]
  · rw [upd_ne hne] at hd
    exact hd
  · rw [upd_ne hne] at hd
    have e : upd (del (upd (upd (upd H1 a (exo a C none)) dx (exd dx [(f, v)])) a (exo a C (some dx))) a) dx (.xd [(f, v)]) = upd H1 dx (.xd [(f, v)]) := by
      funext b
      by_cases hb : b = dx
      · rw [hb, upd_same, upd_same]
      · rw [upd_ne hb, upd_ne hb]
        by_cases hba : b = a
        · rw [hba, del_same, ha]
        · rw [del_ne hba, upd_ne hba, upd_ne hb, upd_ne hba]
    rw [e]
    exact q dx hd
end
section
variable {σ : St} {H : Hp} {D : Ends} {Q : VK} {C a : Addr} {K : Frg} {f m : Str} {W : WX} {te to ta : TE} {t : TA} {sp : Sp} {E : St → XK} {n : St → Hp → Prop} {r : VK} {b c : St → Hp → Prop} {cls : Value} {d : Option Addr}
theorem r_raz (h : te σ H fun v H1 => ∀ d, H1 d = none → W (.ref C) (some d) σ (upd H1 d (.xd [(f, v)]))) : tRaz C f W te D σ H := h
theorem r_ost (h : te σ H fun y H1 => to σ H1 fun x H2 => ∃ a C : Addr, x = .ref a ∧ OexC K C ∧ PySem.W.findIn K (.ref C) f = some none ∧
  ((H2 a = some (exo a C none) ∧ ∀ dx, H2 dx = none → dx ≠ a → n σ (upd (upd H2 dx (exd dx [(f, y)])) a (exo a C (some dx)))) ∨
    ∃ (dx : Addr) (fs : List (Str × V)), H2 a = some (exo a C (some dx)) ∧ H2 dx = some (exd dx fs) ∧ fs.length ≤ 900 ∧ n σ (upd H2 dx (exd dx ((f, y) :: fs))))) : tOst K f to te ⟨n, r, b, c⟩ σ H := h
theorem r_callS (h : t σ H fun vs H1 => sp vs H1 Q (E σ)) : tCallS sp E t σ H Q := h
theorem r_methS (h : ta σ H fun x H1 => ∃ a dx fs, x = .ref a ∧ H1 a = some (.ins C dx fs) ∧ fs.lookup m = none ∧ t σ H1 fun vs H2 => sp (x :: vs) H2 Q (E σ)) : tMethS C m sp E ta t σ H Q := h
theorem r_xf (h : te σ H fun x H1 => x = .ref a ∧ cls = .ref C ∧ ∃ (dd : Addr) (fs : List (Str × V)) (v : V), d = some dd ∧ H1 dd = some (.xd fs) ∧ fs.lookup f = some v ∧ Q v H1) : tXf a cls d C f te σ H Q := h
end
section
variable {P : Program} {w : World} {K : Frg} {mg : Str → Option Value} {base : Heap} {params : Arguments} {body : List Stmt} {scope : Scope} {f : Addr} {fd : FuncData} {x : Str} {C : Addr}
/-- an exception class from what the top wrote -/
theorem razM {n qual : Str} {dv : V} (F : FunD K "__init__" qual params body scope [dv] [] f fd) (S : FnScope ["self", n] ["self", n] scope) (T : ExcK K C f n) (m : mg x = some (.ref C))
    (h : ∀ (Tt : Addr) (kV doc pm : Value) (an : Option Addr) (cdv ct : Value) (us its : List Value), us.length = 2 → its.length = 1 →
      ∃ k, bindArgs (PySem.W.fnOf "__init__" qual params body scope (.ref Tt) kV doc pm an cdv ct) ⟨us, []⟩ = seqItems? (.ref Tt) >>= k ∧ k (some its.toArray) = pure ((["self", n] : List Str).zip (us ++ its.drop 1)))
    (hbody : ∀ (cdv : Value) (A : Around) (outer : List Env) (s : Shared) (H : Hp) (E : XK), PSs (cxOf CX0 P w K mg base ["self", n] qual scope f cdv A outer s H E).nox body (tOst K n (tVar 0) (tVar 1))) : Raz P w K mg base x C n := by
  obtain ⟨ds, r, b⟩ := F.binds1 2 1 (List.cons_ne_nil _ _) rfl h
  have e : ds = [] := by
    cases r
    rfl
  subst e
  refine ⟨f, fd, T, m, F.ok S (fun vs H Q E hs => ?_) fun cdv A outer s H vs Q E hr hs => ?_, b⟩
  · obtain ⟨_, _, _, rfl, _⟩ := hs
    rfl
  · obtain ⟨a, C', v, rfl, T', no, ea, q⟩ := hs
    refine ⟨_, (hbody cdv A outer s H E).nox, ?_⟩
    exact ⟨_, rfl, _, rfl, a, C', rfl, T', no, .inl ⟨ea, q⟩⟩
end
section
variable {X : Cx} {x n : Str} {c : Value} {i : Nat} {body suite : List Stmt} {b₀ : Stmt} {np pos pos' : Pos} {tb : WX → TS} {ts : Addr → Value → Option Addr → TS} {Wout : WX}
/-- ps_try_as, the readings told behind the bodies (so that the elaborator sees the statements first) -/
theorem ps_try_asE (hs : X.stack = X.env :: X.outer) (hf : X.env.frame = some X.env.locals) (hN : X.N.Nodup) (hi : X.N[i]? = some n) (hln : X.env.kindOf n = some .local) (hc : Names X x c) (tk : Takes X Wout)
    (hb : ∀ (W : WX) (pn : List (Addr × Obj)) (xe : Value → Shared → Prop), Takes (X.tr pn xe) W → PassesOwn (model X.prog X.w) X.A X.env xe → ∃ t, PSs (X.tr pn xe) body t ∧ t = tb W)
    (hsu : ∀ (a : Addr) (oe : Obj) (cls : Value) (d : Option Addr) (pn : List (Addr × Obj)), Zc cls d oe → (∃ vs, oe.data = .fields vs) → ∃ t, PSs (X.suite a ((a, oe) :: pn)) (b₀ :: suite) t ∧ t = ts a cls d) :
    PS X (.Try body [.ExceptHandler (some (.Name x np)) (some n) (b₀ :: suite) pos'] [] [] pos) (fun D σ H => tb (wAs X.K c i ts Wout D) D σ H) :=
  ps_try_as hs hf hN hi hln hc tk (fun W pn xe h1 h2 => by
    obtain ⟨t, p, e⟩ := hb W pn xe h1 h2
    rw [← e]
    exact p) fun a oe cls d pn h1 h2 => by
    obtain ⟨t, p, e⟩ := hsu a oe cls d pn h1 h2
    rw [← e]
    exact p
end
theorem pi_listK {X : Cx} {tg l : Expr} {tl : TE} {K : Frg} (e : X.K = K) (hl : PE X l tl) : PI X tg l (iList K tl) := by
  rw [← e]
  exact pi_list hl

/-! ### isinstance of a caught error that has a field -/
structure IsxC (K : Frg) (D : Addr) : Prop where
  xf : XfC K D
  ha : PySem.W.findIn K (.ref D) "__class__" = some (some (.builtin "object.__class__"))
  hn : PySem.W.specialIn K (.builtin "object.__class__") "__get__" = some (some (.builtin "getset_descriptor.__get__"))
  ht : PySem.W.takesIn K (.builtin "object.__class__") = some true
  hm : PySem.W.mroIn K D (.type "object") = some true
def isxB (K : Frg) (D : Addr) : Bool := xfB K D && (decide (PySem.W.findIn K (.ref D) "__class__" = some (some (.builtin "object.__class__"))) && (decide (PySem.W.specialIn K (.builtin "object.__class__") "__get__" = some (some (.builtin "getset_descriptor.__get__"))) && (decide (PySem.W.takesIn K (.builtin "object.__class__") = some true) && decide (PySem.W.mroIn K D (.type "object") = some true))))
theorem isxM {K : Frg} {D : Addr} (h : isxB K D = true) : IsxC K D := by
  obtain ⟨h1, h⟩ := both h
  obtain ⟨h2, h⟩ := both h
  obtain ⟨h3, h⟩ := both h
  obtain ⟨h4, h5⟩ := both h
  exact ⟨xfB_ok h1, of_decide_eq_true h2, of_decide_eq_true h3, of_decide_eq_true h4, of_decide_eq_true h5⟩
def rIsX (K : Frg) (a : Addr) (cls : Value) (d : Option Addr) : List V → Hp → VK → Prop := fun xs H Q => ∃ (C D dd : Addr) (fs : List (Str × V)) (b : Bool), xs = [.ref a, .ref C] ∧ cls = .ref D ∧ d = some dd ∧ H dd = some (.xd fs) ∧ IsxC K D ∧ PySem.W.kitOne K (.ref D) (.ref C) = some b ∧ Q (.bl b) H
theorem call_isX {X : Cx} {a : Addr} {cls : Value} {d : Option Addr} {oe : Obj} {pn : List (Addr × Obj)} (hz : Zc cls d oe) (hf : ∃ vs, oe.data = .fields vs) : CallR (X.suite a ((a, oe) :: pn)) (.builtin "isinstance") (rIsX X.K a cls d) := by
  intro pins s σ H xs us Q I r h
  obtain ⟨C, D, dd, fs, b, rfl, rfl, rfl, ea, T, e, q⟩ := h
  cases r with
  | cons rx rr =>
    cases rr with
    | cons rt rr =>
      cases rr
      cases rx
      cases rt
      obtain ⟨hget, _⟩ := I.pin (a, oe) (List.mem_append_left _ List.mem_cons_self)
      obtain ⟨vs, hv⟩ := hf
      have hx : ObjOk X.prog X.w H s.heap dd (.xd fs) := I.hok dd _ ea
      obtain ⟨mA, hns, _⟩ := hx
      obtain ⟨od, ho, _⟩ := lookIn_ns hns
      have J : PySem.W.InstAt s.heap a oe D (some od) := ⟨hget, hz.1, by unfold PySem.W.notCls; rw [hv] <;> rfl, by rw [hz.2]; exact ho⟩
      have ic : (PySem.W.clsIn X.K D).isSome = true := by
        have q := T.xf.hdC
        unfold PySem.W.hasDictIn at q
        cases z : PySem.W.clsIn X.K D with
        | some c => rfl
        | none => rw [z] at q; cases q
      exact PySem.W.kia_one (PySem.W.kitx_exc ic T.xf.ga T.xf.gg T.xf.exC T.ha T.hn T.ht T.hm) I.kIn J e (fun z => nomatch z) fun tk => ⟨.bl b, H, I.kept (t' := tk) fun _ _ z => z, rfl, q⟩

/-! ### the Hook over addresses that are written down -/
def hookY (l : List Addr) (fa : List He.Fa) (ex : Frg → Bool) (fn : List DefM) (ts : List TabX) : PySem.W.Hook where
  α := AlX
  obs := fun s => obsX fa ex fn ts (He.frG s.heap.get? l)
  val := fun w => valX fn ts w
  says := fun w h => ∃ K : Frg, K.In h ∧ SaysX fa ex fn ts w K
  of := fun _ _ e => ⟨_, He.frG_in, e⟩
  keeps := fun _ _ _ ⟨K, hK, c⟩ k => ⟨K, PySem.W.Frag.In.keeps hK k, c⟩
theorem obsY_eq {l : List Addr} {fa : List He.Fa} {ex : Frg → Bool} {fn : List DefM} {ts : List TabX} {g : Addr → Option Obj} {s : Shared} (h : ∀ a, g a = s.heap.get? a) : obsX fa ex fn ts (He.frG g l) = (hookY l fa ex fn ts).obs s := by
  have e : g = s.heap.get? := funext h
  subst e
  rfl
/-- the same for a program without such dicts -/
def hookZ (l : List Addr) (fa : List He.Fa) (ex : Frg → Bool) (fn : List DefM) : PySem.W.Hook where
  α := AlM
  obs := fun s => obsM fa ex fn (He.frG s.heap.get? l)
  val := fun _ => valM fn
  says := fun _ h => ∃ K : Frg, K.In h ∧ SaysM fa ex fn K
  of := fun _ _ e => ⟨_, He.frG_in, e⟩
  keeps := fun _ _ _ ⟨K, hK, c⟩ k => ⟨K, PySem.W.Frag.In.keeps hK k, c⟩
theorem obsZ_eq {l : List Addr} {fa : List He.Fa} {ex : Frg → Bool} {fn : List DefM} {g : Addr → Option Obj} {s : Shared} (h : ∀ a, g a = s.heap.get? a) : obsM fa ex fn (He.frG g l) = (hookZ l fa ex fn).obs s := by
  have e : g = s.heap.get? := funext h
  subst e
  rfl

/-! ### a def that is given as an argument, and called by the parameter's name -/
def tCallN (mg : Str → Option Value) (i : Nat) (y : Str) (sp : Sp) (t : TA) : TE := fun σ H Q => (∃ f, σ[i]? = some (some (.ref f)) ∧ mg y = some (.ref f)) ∧ t σ H fun vs H1 => sp (vs ++ []) H1 Q C8.E0
section
variable {X : Cx} {k j i : Nat} {x y : Str} {sp : Sp} {p pos : Pos} {e : Expr} {es : List Expr} {t : TA}
theorem pe_cL (c : Cal X.prog X.w X.K X.mg X.base k y sp []) (hr : Room j X.A) (hk : k ≤ j) (ha : PA X (e :: es) t)
    (hN : X.N[i]? = some x := by rfl) (hv : Vis X.env.scope x := by first | exact Or.inl rfl | exact Or.inr (Or.inl rfl) | exact Or.inr (Or.inr rfl))
    (hdb : (x == ("__debug__" : Str)) = false := by decide) (hcd : (x == ("__classdict__" : Str)) = false := by decide) (he : starEach (e :: es) X.env = (false, eval e X.env) :: starEach es X.env := by rfl) (hpl : (backTo pos (starEach es X.env)).any (·.1) = false := by rfl) :
    PE X (.Call (.Name x p) (e :: es) [] pos) (tCallN X.mg i y sp t) := by
  refine ⟨fun pins s σ H Q I h => ?_⟩
  obtain ⟨⟨f, hs, hf⟩, ht⟩ := h
  obtain ⟨f', fd, ps, ds, F, hm, kp, b, d⟩ := c.ex
  rw [hm] at hf
  cases hf
  exact (L2.pe_callL (i := i) (f := f) (sp := sp) (dvs := []) (E := C8.E0) F (hr.mono hk) hN hv kp b d pass0 ha hdb hcd he hpl).run pins s σ H Q I ⟨hs, ht⟩
end
theorem r_callN {mg : Str → Option Value} {i : Nat} {y : Str} {sp : Sp} {t : TA} {σ : St} {H : Hp} {Q : VK} {f : Addr} (h1 : σ[i]? = some (some (.ref f))) (h2 : mg y = some (.ref f)) (h : t σ H fun vs H1 => sp (vs ++ []) H1 Q C8.E0) : tCallN mg i y sp t σ H Q := ⟨⟨f, h1, h2⟩, h⟩

/-! ### own classes: made, their fields and methods -/
theorem lk_hit (k : Str) (v : V) (r : List (Str × V)) : List.lookup k ((k, v) :: r) = some v := by simp [List.lookup]
theorem lk_miss {k a : Str} {v : V} {r : List (Str × V)} (h : (a == k) = false) : List.lookup a ((k, v) :: r) = List.lookup a r := by
  show (match a == k with
    | true => some v
    | false => List.lookup a r) = _
  rw [h]
theorem pf_nil (k : Str) (v : V) : putF k v [] = [(k, v)] := rfl
theorem pf_hit (k : Str) (v x : V) (r : List (Str × V)) : putF k v ((k, x) :: r) = (k, v) :: r := if_pos rfl
theorem pf_miss {k g : Str} {v x : V} {r : List (Str × V)} (h : ¬ g = k) : putF k v ((g, x) :: r) = (g, x) :: putF k v r := if_neg h
section
variable {X : Cx} {k j : Nat} {C : Addr} {x m : Str} {sp : Sp} {dvs : List V} {p pos apos : Pos} {e o : Expr} {es : List Expr} {ta : TE} {t : TA}
theorem pe_mk0 (c : Mak X.prog X.w X.K X.mg X.base k x C sp dvs) (hr : Room j X.A) (hk : k + 1 ≤ j) (hg : Gl X x) (hdb : (x == ("__debug__" : Str)) = false := by decide) : PE X (.Call (.Name x p) [] [] pos) (tMake C sp dvs C8.E0 tNil) := by
  obtain ⟨_, _, _, _, M, F, hm, b, d⟩ := c.ex
  exact pe_make0 M F (hr.mono hk) hg hm b d pass0 hdb
/-- a property of the class at C -/
structure Prp (P : Program) (w : World) (K : Frg) (mg : Str → Option Value) (base : Heap) (k : Nat) (C : Addr) (f : Str) (sp : Sp) : Prop where
  ex : ∃ (q g : Addr) (fd : FuncData) (ps : List Str), Cls K C ∧ PropOf K C f q g ∧ FnOk P w K mg base CX0 k g fd ps sp ∧ Binds K fd ps []
theorem pe_pr {f : Str} (c : Prp X.prog X.w X.K X.mg X.base k C f sp) (hr : Room j X.A) (hk : k + 1 ≤ j) (he : PE X o ta) (hab : attributeBase o f X.env (eval o X.env) = eval o X.env := by rfl) : PE X (.Attribute o f pos) (tProp C sp [] C8.E0 ta) := by
  obtain ⟨_, _, _, _, cl, q, F, b⟩ := c.ex
  exact pe_prop he cl q F (hr.mono hk) b .nil pass0 hab
end
section
variable {P : Program} {w : World} {K : Frg} {mg : Str → Option Value} {base : Heap} {x qual : Str} {params : Arguments} {body : List Stmt} {scope : Scope} {f : Addr} {fd : FuncData} {N ps : List Str} {k : Nat} {sp : Sp} {C : Addr}
theorem metD (F : FunD K x qual params body scope [] [] f fd) (cl : Cls K C) (me : Meth K C x f) (S : FnScope N ps scope)
    (hb : ∀ (kV doc pm : Value) (an : Option Addr) (cdv ct : Value) (us : List Value), us.length = ps.length → bindArgs (PySem.W.fnOf x qual params body scope .none kV doc pm an cdv ct) ⟨us, []⟩ = pure (ps.zip us))
    (len : ∀ vs H Q E, sp vs H Q E → vs.length = ps.length)
    (hbody : ∀ (cdv : Value) (A : Around) (outer : List Env) (s : Shared) (H : Hp) (vs : List V) (Q : VK) (E : XK), Room k (A.deeper (envOfC qual scope s.heap.objs.size f cdv)) → sp vs H Q E →
      ∃ t, PSs (cxOf CX0 P w K mg base N qual scope f cdv A outer s H E).nox body t ∧ t { nx := fun _ H' => Q .non H', rt := Q } (start N vs) H) : Met P w K mg base (k + 1) C x sp [] :=
  ⟨f, fd, ps, [], cl, me, fnD F S len hbody, F.bindsN hb, .nil⟩
theorem makD {y : Str} (F : FunD K x qual params body scope [] [] f fd) (M : Mk K C f) (m : mg y = some (.ref C)) (S : FnScope N ps scope)
    (hb : ∀ (kV doc pm : Value) (an : Option Addr) (cdv ct : Value) (us : List Value), us.length = ps.length → bindArgs (PySem.W.fnOf x qual params body scope .none kV doc pm an cdv ct) ⟨us, []⟩ = pure (ps.zip us))
    (len : ∀ vs H Q E, sp vs H Q E → vs.length = ps.length)
    (hbody : ∀ (cdv : Value) (A : Around) (outer : List Env) (s : Shared) (H : Hp) (vs : List V) (Q : VK) (E : XK), Room k (A.deeper (envOfC qual scope s.heap.objs.size f cdv)) → sp vs H Q E →
      ∃ t, PSs (cxOf CX0 P w K mg base N qual scope f cdv A outer s H E).nox body t ∧ t { nx := fun _ H' => Q .non H', rt := Q } (start N vs) H) : Mak P w K mg base (k + 1) y C sp [] :=
  ⟨f, fd, ps, [], M, fnD F S len hbody, m, F.bindsN hb, .nil⟩
theorem prpD {y : Str} {q : Addr} (F : FunD K x qual params body scope [] [] f fd) (cl : Cls K C) (pr : PropOf K C y q f) (S : FnScope N ps scope)
    (hb : ∀ (kV doc pm : Value) (an : Option Addr) (cdv ct : Value) (us : List Value), us.length = ps.length → bindArgs (PySem.W.fnOf x qual params body scope .none kV doc pm an cdv ct) ⟨us, []⟩ = pure (ps.zip us))
    (len : ∀ vs H Q E, sp vs H Q E → vs.length = ps.length)
    (hbody : ∀ (cdv : Value) (A : Around) (outer : List Env) (s : Shared) (H : Hp) (vs : List V) (Q : VK) (E : XK), Room k (A.deeper (envOfC qual scope s.heap.objs.size f cdv)) → sp vs H Q E →
      ∃ t, PSs (cxOf CX0 P w K mg base N qual scope f cdv A outer s H E).nox body t ∧ t { nx := fun _ H' => Q .non H', rt := Q } (start N vs) H) : Prp P w K mg base (k + 1) C y sp :=
  ⟨q, f, fd, ps, cl, pr, fnD F S len hbody, F.bindsN hb⟩
end
section
variable {σ : St} {H : Hp} {n b c : St → Hp → Prop} {r : VK} {Q : VK} {K : Frg} {a C dx : Addr} {fs : List (Str × V)} {f : Str} {v : V}
theorem r_fld {te : TE} (h : te σ H fun x H1 => ∃ a C dx fs v, x = .ref a ∧ H1 a = some (.ins C dx fs) ∧ Cls K C ∧ NoAttr K C f ∧ fs.lookup f = some v ∧ Q v H1) : tFld K te f σ H Q := h
theorem r_fget {R : V → Prop} (h : H a = some (.ins C dx fs)) (cl : Cls K C) (na : NoAttr K C f) (l : fs.lookup f = some v) (q : R v) :
    ∃ a' C dx fs v, V.ref a = .ref a' ∧ H a' = some (.ins C dx fs) ∧ Cls K C ∧ NoAttr K C f ∧ fs.lookup f = some v ∧ R v := ⟨a, C, dx, fs, v, rfl, h, cl, na, l, q⟩
theorem r_sfld {ta tv : TE} (h : tv σ H fun y H1 => ta σ H1 fun x H2 => ∃ a C dx fs, x = .ref a ∧ H2 a = some (.ins C dx fs) ∧ Cls K C ∧ NoAttr K C f ∧ fs.length < 1000 ∧ n σ (upd H2 a (.ins C dx (putF f y fs)))) : sFld K ta tv f ⟨n, r, b, c⟩ σ H := h
theorem r_fset {R : Hp → Prop} {fs' : List (Str × V)} (h : H a = some (.ins C dx fs)) (cl : Cls K C) (na : NoAttr K C f) (hl : fs.length < 1000) (e : putF f v fs = fs') (q : R (upd H a (.ins C dx fs'))) :
    ∃ a' C dx fs, V.ref a = .ref a' ∧ H a' = some (.ins C dx fs) ∧ Cls K C ∧ NoAttr K C f ∧ fs.length < 1000 ∧ R (upd H a' (.ins C dx (putF f v fs))) := ⟨a, C, dx, fs, rfl, h, cl, na, hl, by rw [e]; exact q⟩
theorem r_meth {m : Str} {sp : Sp} {dvs : List V} {E : XK} {ta : TE} {t : TA} (h : ta σ H fun x H1 => ∃ a dx fs, x = .ref a ∧ H1 a = some (.ins C dx fs) ∧ fs.lookup m = none ∧ t σ H1 fun vs H2 => sp (x :: (vs ++ dvs)) H2 Q E) : tMeth C m sp dvs E ta t σ H Q := h
theorem r_mget {m : Str} {R : Prop} (h : H a = some (.ins C dx fs)) (l : fs.lookup m = none) (q : R) : ∃ a' dx fs, V.ref a = .ref a' ∧ H a' = some (.ins C dx fs) ∧ fs.lookup m = none ∧ R := ⟨a, dx, fs, rfl, h, l, q⟩
theorem r_prop {sp : Sp} {dvs : List V} {E : XK} {ta : TE} (h : ta σ H fun x H1 => ∃ a dx fs, x = .ref a ∧ H1 a = some (.ins C dx fs) ∧ sp (.ref a :: dvs) H1 Q E) : tProp C sp dvs E ta σ H Q := h
theorem r_pget {R : Addr → Prop} (h : H a = some (.ins C dx fs)) (q : R a) : ∃ a' dx fs, V.ref a = .ref a' ∧ H a' = some (.ins C dx fs) ∧ R a' := ⟨a, dx, fs, rfl, h, q⟩
theorem r_make {sp : Sp} {dvs : List V} {E : XK} {t : TA} (h : t σ H fun vs H1 => ∀ x dx, H1 x = none → H1 dx = none → dx ≠ x → sp (.ref x :: (vs ++ dvs)) (upd (upd H1 dx (.own x)) x (.ins C dx [])) (fun v H2 => v = .non ∧ Q (.ref x) H2) E) : tMake C sp dvs E t σ H Q := h
end

/-! ### loops over rows -/
section
variable {X : Cx} {tg iter : Expr}
/-- one of two ways to come by an iterator -/
theorem pi_or {u v : TI} (h1 : PI X tg iter u) (h2 : PI X tg iter v) : PI X tg iter (fun σ H R => u σ H R ∨ v σ H R) := by
  refine ⟨fun pins s σ H R I h => ?_⟩
  rcases h with h | h
  · exact h1.run pins s σ H R I h
  · exact h2.run pins s σ H R I h
end
set_option maxHeartbeats 8000000 in
theorem meets_enum1 {v : Value} {o : Obj} {G : Heap → Prop} (B : Begins v o G) :
    Meets (Builtin.«enumerate.__new__» ⟨[.type "enumerate", v], []⟩) (fun _ R s => G s.heap ∧
      R (.ok (.ret (.ref (s.heap.push o).objs.size))) { s with heap := (s.heap.push o).push { cls := .type "enumerate", data := .fields #[.none, .bool false, .ref s.heap.objs.size, rawInt 0, .none, .none] } }) :=
  .of_wp fun prog w A R s h => by
    obtain ⟨hp, g, d, tk, os⟩ := s
    obtain ⟨h1, h⟩ := h
    have hsub := sub_enumerate
    have q1 : ∀ {A' : Around} {E : Value → Shared → Prop} {Q : Value → Shared → Prop}, Q (.ref hp.objs.size) ⟨hp.push o, g, d, tk, os⟩ → wpAny (model prog w) A' (pyIter v) Q E ⟨hp, g, d, tk, os⟩ :=
      fun q => B.iter prog w _ _ ⟨hp, g, d, tk, os⟩ _ h1 q
    wp_walk using q1
    refine wpAny_stack_any fun st => wpAny_pure ?_
    split
    · rename_i c _ _ _ _ _
      cases (c == Value.type "enumerate")
      · wp_walk using q1
        exact ⟨_, rfl, h⟩
      · wp_walk using q1
        exact ⟨_, rfl, h⟩
    · wp_walk using q1
      exact ⟨_, rfl, h⟩
theorem call_enum1 {prog : Program} {w : World} {A : Around} {E : Value → Shared → Prop} {s : Shared} {v : Value} {o : Obj} {G : Heap → Prop} {Q : Value → Shared → Prop} (B : Begins v o G) (h1 : G s.heap)
    (h : ∀ h', IsEnum h' (s.heap.objs.size + 1) s.heap.objs.size 0 .none → h'.get? s.heap.objs.size = some o → h'.objs.size = s.heap.objs.size + 2 →
      (∀ b o, s.heap.get? b = some o → h'.get? b = some o) → Q (.ref (s.heap.objs.size + 1)) { s with heap := h' }) : wpAny (model prog w) A (call (.type "enumerate") [v]) Q E s := by
  refine callType_new F.called_enumerate (by decide) (F.typeCall_enumerate_1 _) (F.newCall_enumerate_1 _) (fun obj => F.args_object_init_2 obj _) F.entry_enumerate_new (meets_enum1 B) ⟨h1, ?_⟩
  have hz : (s.heap.push o).objs.size = s.heap.objs.size + 1 := Heap.size_push ..
  show _ ∧ _
  rw [hz]
  have he := Heap.get?_push_size (s.heap.push o) (o := { cls := .type "enumerate", data := .fields #[.none, .bool false, .ref s.heap.objs.size, rawInt 0, .none, .none] }) rfl
  rw [hz] at he
  exact ⟨⟨_, he, rfl⟩, h _ he (Heap.get?_push_of_some _ (Heap.get?_push_size _ B.free)) (by rw [Heap.size_push, hz]) fun b o x => Heap.get?_push_of_some _ (Heap.get?_push_of_some _ x)⟩
/-- the tuple at a, each item in a new pair -/
def Itet (K : PySem.W.Frag) (a : Addr) (xs : List V) : It :=
  ⟨fun i H => SqT K H a xs ∧ i < xs.length, fun i H v H' => ∃ T x, v = .ref T ∧ H T = none ∧ H' = upd H T (.tup [.int (i : Nat), x]) ∧ xs[i]? = some x, fun i H => SqT K H a xs ∧ xs.length ≤ i⟩
theorem turn_enumT {P : Program} {w : World} {K : PySem.W.Frag} {elts : List Expr} {kk : Nat} {tpos : Pos} (a e it : Addr) (xs : List V) (hta : a ≠ it) :
    Turn P w K (.Tuple elts kk tpos) (Itet K a xs) [e, it] e (fun i h => (∃ old, IsEnum h e it ((i : Nat) : Int) old) ∧ h.IsTupleIter it a i ∧ e ≠ it ∧ i ≤ xs.length) where
  mem := by simp
  obj := fun i h st b hb => by
    obtain ⟨⟨old, he⟩, ⟨o, ho, hc, hd⟩, _⟩ := st
    have e' : b = e ∨ b = it := by simpa using hb
    rcases e' with z | z
    · rw [z]
      exact ⟨_, he, fun v q => nomatch q⟩
    · rw [z]
      exact ⟨o, ho, fun v q => by rw [hd] at q; cases q⟩
  keep := fun i h h' st k => let ⟨⟨old, he⟩, hi, hne, hn⟩ := st; ⟨⟨old, k e (by simp) _ he⟩, hi.at fun o q => k it (by simp) o q, hne, hn⟩
  item := by
    intro X hP hw hK hc i pins s σ H E I hf st hg
    subst hP hw hK
    obtain ⟨⟨old, he⟩, hit, hne, hn⟩ := st
    obtain ⟨hq, hlt⟩ := hg
    obtain ⟨its, rv, p, hz⟩ := I.tuple hq
    have p' : s.heap.IsTuple a its.toArray := p
    have hl := rv.length
    have hel : e < s.heap.objs.size := Heap.lt_size he
    have hil : it < s.heap.objs.size := by
      obtain ⟨_, q, _⟩ := hit
      exact Heap.lt_size q
    have hea : e ≠ a := fun q => by
      obtain ⟨o, ho, hc', _⟩ := p'
      rw [← q, he] at ho
      cases ho
      have z : Value.type "enumerate" = Value.type "tuple" := hc'
      injection z with z
      exact absurd z (by decide)
    have D := Draws.tuple (prog := X.prog) (w := X.w) (A := X.A.in1) (I.ok.hd hc) it a hta its.toArray
    refine wpAny_pyNext_enum_itemD D he ⟨hit, p'⟩ (by simpa [← hl] using hlt) hne (by simp [hne, hea]) fun u h' tk hu ho hs' hT hsz hk => ?_
    obtain ⟨x, hx, ru⟩ : ∃ x, xs[i]? = some x ∧ RelV x u := by
      obtain ⟨u', hu', r'⟩ := rv.get (List.getElem?_eq_getElem hlt)
      have e1 : its[i]? = some u := by simpa using hu
      rw [e1] at hu'
      cases hu'
      exact ⟨_, List.getElem?_eq_getElem hlt, r'⟩
    refine ⟨_, rfl, wpAny_letOwnedTupleGo_enum (s := { s with heap := h', toks := tk + 1 }) ho fun h'' he' sb => ?_⟩
    have hT2 : h''.get? s.heap.objs.size = some { cls := .type "tuple", data := .seq #[.int i tk, u] } := (sb.2 _ (Nat.ne_of_gt hel)).trans hT
    have new : ObjOk X.prog X.w (upd H s.heap.objs.size (.tup [.int (i : Nat), x])) h'' s.heap.objs.size (.tup [.int (i : Nat), x]) :=
      ⟨by show 2 ≤ sizeLine; decide, [.int i tk, u], .cons ⟨_, rfl⟩ (.cons ru .nil), ⟨_, hT2, rfl, _, rfl⟩⟩
    have I1 : Inv X pins σ (upd H s.heap.objs.size (.tup [.int (i : Nat), x])) { s with heap := h'', toks := tk + 1 } :=
      I.turnedNew (ch := [e, it]) (fun b ob hb q => (sb.2 b (fun z => hb (by simp [z]))).trans (hk b ob (fun z => hb (by simp [z])) (fun z => hb (by simp [z])) q)) hf (Nat.le_refl _) new
    refine ⟨.ref s.heap.objs.size, _, I1, rfl, ⟨_, x, rfl, I.hok.fresh (Nat.le_refl _), rfl, hx⟩, ⟨⟨u, ?_⟩, hs'.1.at fun o q => (sb.2 it (Ne.symm hne)).trans q, hne, hlt⟩, fun b hb => ?_⟩
    · have e1 : ((i + 1 : Nat) : Int) = (i : Int) + 1 := by omega
      rw [e1]
      exact he'
    · have hb' : b < s.heap.objs.size := by
        have e' : b = e ∨ b = it := by simpa using hb
        rcases e' with z | z
        · rw [z]
          exact hel
        · rw [z]
          exact hil
      rw [upd_ne (Nat.ne_of_lt hb')]
      exact (hf b hb).1
  done := by
    intro X hP hw hK hc i pins s σ H E I hf st hg
    subst hP hw hK
    obtain ⟨⟨old, he⟩, hit, hne, hn⟩ := st
    obtain ⟨hq, hx⟩ := hg
    obtain ⟨its, rv, p, hz⟩ := I.tuple hq
    have p' : s.heap.IsTuple a its.toArray := p
    obtain ⟨f0, f1, f2, f3, f4, f5⟩ := hf it (by simp)
    have hl := rv.length
    have hi : i = its.toArray.size := by
      simp
      omega
    subst hi
    have D := Draws.tuple (prog := X.prog) (w := X.w) (A := X.A.in1) (I.ok.hd hc) it a hta its.toArray
    exact wpAny_pyNext_enum_endD D he ⟨hit, p'⟩ fun h' eb => ⟨rfl, I.turned (t' := s.toks) (fun b o hb q => eb b o hb q) f0 f1 f3 f4 f5⟩
  self := fun A i s Q E st h => let ⟨⟨_, he⟩, _⟩ := st; wpAny_pyIter_enum he h
def iEnumT (K : PySem.W.Frag) (ta : TA) : TI := fun σ H R => ta σ H fun vs H1 => ∃ a xs, vs = [.ref a] ∧ SqT K H1 a xs ∧ R (Itet K a xs) H1
theorem pi_enumT {X : Cx} {e : Expr} {ta : TA} {p pos tpos : Pos} {elts : List Expr} {kk : Nat} (hg : Gl X "enumerate") (hm : X.mg "enumerate" = none) (ha : PA X [e] ta) (hs : starEach [e] X.env = [(false, eval e X.env)] := by rfl) :
    PI X (.Tuple elts kk tpos) (.Call (.Name "enumerate" p) [e] [] pos) (iEnumT X.K ta) := by
  refine ⟨fun pins s σ H R I h => ?_⟩
  refine PyProof.Rows.Call_ (ld_blt I hg hm PyProof.Rows.boot_enumerate (PyProof.Rows.callWith_type1 (thn (ha.run pos pins s σ H _ I h) fun us s1 ⟨vs, H1, I1, r1, q1⟩ => ?_) hs rfl))
  obtain ⟨a, xs, ex, hq, q⟩ := q1
  subst ex
  cases r1 with
  | cons r rr =>
    cases rr
    cases r
    obtain ⟨its, rv, p', hz⟩ := I1.tuple hq
    have p2 : s1.heap.IsTuple a its.toArray := p'
    refine call_enum1 (begins_tuple a its.toArray) p2 fun h' he hit hsz hk => wpAny_pyIter_enum he ?_
    have I2 : Inv X pins σ H1 { s1 with heap := h' } := I1.kept (t' := s1.toks) hk
    have hal : a < s1.heap.objs.size := by
      obtain ⟨_, q, _⟩ := p2
      exact Heap.lt_size q
    refine ⟨s1.heap.objs.size + 1, [s1.heap.objs.size + 1, s1.heap.objs.size], _, _, H1, rfl, I2, turn_enumT a (s1.heap.objs.size + 1) s1.heap.objs.size xs (Nat.ne_of_lt hal), ⟨⟨.none, he⟩, ⟨_, hit, rfl, rfl⟩, Nat.succ_ne_self _, Nat.zero_le _⟩, fun b hb => ?_, q⟩
    have e' : b = s1.heap.objs.size + 1 ∨ b = s1.heap.objs.size := by simpa using hb
    have hle : s1.heap.objs.size ≤ b := by
      rcases e' with z | z
      · rw [z]
        exact Nat.le_add_right _ _
      · rw [z]
        exact Nat.le_refl _
    exact I1.fpOk hle (I1.hok.fresh hle)
/-! ### the turns of such loops -/
section
variable {σ : St} {H : Hp} {n b c : St → Hp → Prop} {r : VK} {Q : VK} {K : PySem.W.Frag}
theorem r_each {J : It} {g : TG} {tb : TS} (N : Nat) (Pv : Nat → St → Hp → Prop) (h0 : Pv 0 σ H)
    (hs : ∀ (i : Nat) σ H, i < N → Pv i σ H → J.go i H ∧ ∀ x H', J.yld i H x H' → g x σ H' fun σ2 H2 => tb ⟨Pv (i + 1), r, n, Pv (i + 1)⟩ σ2 H2) (hd : ∀ σ H, Pv N σ H → J.stop N H ∧ n σ H) :
    ∃ W : Nat → Nat → St → Hp → Prop, (∃ m, W 0 m σ H) ∧ ∀ i m σ H, W i m σ H →
    (J.stop i H ∧ n σ H) ∨ (J.go i H ∧ ∃ N : St → Hp → Prop, (∀ σ' H', N σ' H' → ∃ m', m' < m ∧ W (i + 1) m' σ' H') ∧ ∀ x H', J.yld i H x H' → g x σ H' fun σ2 H2 => tb ⟨N, r, n, N⟩ σ2 H2) := by
  refine ⟨fun i m σ H => i ≤ N ∧ m = N - i ∧ Pv i σ H, ⟨N, Nat.zero_le _, rfl, h0⟩, fun i m σ H ⟨hi, hm, hp⟩ => ?_⟩
  by_cases c : i < N
  · obtain ⟨h1, h2⟩ := hs i σ H c hp
    exact .inr ⟨h1, Pv (i + 1), fun σ' H' q => ⟨N - (i + 1), by omega, c, rfl, q⟩, h2⟩
  · have e : i = N := by omega
    subst e
    exact .inl (hd σ H hp)
/-- a for over a list -/
theorem r_eachL {g : TG} {tb : TS} {a : Addr} {xs : List V} (Pv : Nat → St → Hp → Prop) (h0 : Pv 0 σ H) (hl : ∀ i σ H, Pv i σ H → SqL K H a xs)
    (hs : ∀ (i : Nat) x σ H, xs[i]? = some x → Pv i σ H → g x σ H fun σ2 H2 => tb ⟨Pv (i + 1), r, n, Pv (i + 1)⟩ σ2 H2) (hd : ∀ σ H, Pv xs.length σ H → n σ H) :
    ∃ W : Nat → Nat → St → Hp → Prop, (∃ m, W 0 m σ H) ∧ ∀ i m σ H, W i m σ H →
    ((Itl K a).stop i H ∧ n σ H) ∨ ((Itl K a).go i H ∧ ∃ N : St → Hp → Prop, (∀ σ' H', N σ' H' → ∃ m', m' < m ∧ W (i + 1) m' σ' H') ∧ ∀ x H', (Itl K a).yld i H x H' → g x σ H' fun σ2 H2 => tb ⟨N, r, n, N⟩ σ2 H2) := by
  refine r_each xs.length Pv h0 (fun i σ H hi p => ⟨⟨xs, xs[i], hl i σ H p, List.getElem?_eq_getElem hi⟩, ?_⟩) fun σ H p => ⟨⟨xs, hl _ σ H p, Nat.le_refl _⟩, hd σ H p⟩
  rintro x _ ⟨rfl, e⟩
  exact hs i x σ _ (e xs (hl i σ _ p)) p
/-- .. a tuple -/
theorem r_eachT {g : TG} {tb : TS} {a : Addr} {xs : List V} (Pv : Nat → St → Hp → Prop) (h0 : Pv 0 σ H) (hl : ∀ i σ H, Pv i σ H → SqT K H a xs)
    (hs : ∀ (i : Nat) x σ H, xs[i]? = some x → Pv i σ H → g x σ H fun σ2 H2 => tb ⟨Pv (i + 1), r, n, Pv (i + 1)⟩ σ2 H2) (hd : ∀ σ H, Pv xs.length σ H → n σ H) :
    ∃ W : Nat → Nat → St → Hp → Prop, (∃ m, W 0 m σ H) ∧ ∀ i m σ H, W i m σ H →
    ((Itt K a).stop i H ∧ n σ H) ∨ ((Itt K a).go i H ∧ ∃ N : St → Hp → Prop, (∀ σ' H', N σ' H' → ∃ m', m' < m ∧ W (i + 1) m' σ' H') ∧ ∀ x H', (Itt K a).yld i H x H' → g x σ H' fun σ2 H2 => tb ⟨N, r, n, N⟩ σ2 H2) := by
  refine r_each xs.length Pv h0 (fun i σ H hi p => ⟨⟨xs, xs[i], hl i σ H p, List.getElem?_eq_getElem hi⟩, ?_⟩) fun σ H p => ⟨⟨xs, hl _ σ H p, Nat.le_refl _⟩, hd σ H p⟩
  rintro x _ ⟨rfl, e⟩
  exact hs i x σ _ (e xs (hl i σ _ p)) p
/-- .. with the numbers of the turns -/
theorem r_eachE {g : TG} {tb : TS} {a : Addr} {xs : List V} (Pv : Nat → St → Hp → Prop) (h0 : Pv 0 σ H) (hl : ∀ i σ H, Pv i σ H → SqL K H a xs)
    (hs : ∀ (i : Nat) x σ H T, xs[i]? = some x → Pv i σ H → H T = none → g (.ref T) σ (upd H T (.tup [.int (i : Nat), x])) fun σ2 H2 => tb ⟨Pv (i + 1), r, n, Pv (i + 1)⟩ σ2 H2) (hd : ∀ σ H, Pv xs.length σ H → n σ H) :
    ∃ W : Nat → Nat → St → Hp → Prop, (∃ m, W 0 m σ H) ∧ ∀ i m σ H, W i m σ H →
    ((Ite K a).stop i H ∧ n σ H) ∨ ((Ite K a).go i H ∧ ∃ N : St → Hp → Prop, (∀ σ' H', N σ' H' → ∃ m', m' < m ∧ W (i + 1) m' σ' H') ∧ ∀ x H', (Ite K a).yld i H x H' → g x σ H' fun σ2 H2 => tb ⟨N, r, n, N⟩ σ2 H2) := by
  refine r_each xs.length Pv h0 (fun i σ H hi p => ⟨⟨xs, xs[i], hl i σ H p, List.getElem?_eq_getElem hi⟩, ?_⟩) fun σ H p => ⟨⟨xs, hl _ σ H p, Nat.le_refl _⟩, hd σ H p⟩
  rintro _ _ ⟨T, x, rfl, hT, rfl, e⟩
  exact hs i x σ _ T (e xs (hl i σ _ p)) p hT
theorem r_eachET {g : TG} {tb : TS} {a : Addr} {xs : List V} (Pv : Nat → St → Hp → Prop) (h0 : Pv 0 σ H) (hl : ∀ i σ H, Pv i σ H → SqT K H a xs)
    (hs : ∀ (i : Nat) x σ H T, xs[i]? = some x → Pv i σ H → H T = none → g (.ref T) σ (upd H T (.tup [.int (i : Nat), x])) fun σ2 H2 => tb ⟨Pv (i + 1), r, n, Pv (i + 1)⟩ σ2 H2) (hd : ∀ σ H, Pv xs.length σ H → n σ H) :
    ∃ W : Nat → Nat → St → Hp → Prop, (∃ m, W 0 m σ H) ∧ ∀ i m σ H, W i m σ H →
    ((Itet K a xs).stop i H ∧ n σ H) ∨ ((Itet K a xs).go i H ∧ ∃ N : St → Hp → Prop, (∀ σ' H', N σ' H' → ∃ m', m' < m ∧ W (i + 1) m' σ' H') ∧ ∀ x H', (Itet K a xs).yld i H x H' → g x σ H' fun σ2 H2 => tb ⟨N, r, n, N⟩ σ2 H2) := by
  refine r_each xs.length Pv h0 (fun i σ H hi p => ⟨⟨hl i σ H p, hi⟩, ?_⟩) fun σ H p => ⟨⟨hl _ σ H p, Nat.le_refl _⟩, hd σ H p⟩
  rintro _ _ ⟨T, x, rfl, hT, rfl, e⟩
  exact hs i x σ _ T e p hT
/-- .. of range(i, j, c) -/
theorem r_eachR {g : TG} {tb : TS} {i0 j0 c0 : Int} (k : Nat) (hc : RgC i0 j0 c0 k) (Pv : Nat → St → Hp → Prop) (h0 : Pv 0 σ H)
    (hs : ∀ (i : Nat) σ H, i < k → Pv i σ H → g (.int (i0 + i * c0)) σ H fun σ2 H2 => tb ⟨Pv (i + 1), r, n, Pv (i + 1)⟩ σ2 H2) (hd : ∀ σ H, Pv k σ H → n σ H) :
    RgC i0 j0 c0 k ∧ ∃ W : Nat → Nat → St → Hp → Prop, (∃ m, W 0 m σ H) ∧ ∀ i m σ H, W i m σ H →
    ((Itc i0 c0 k).stop i H ∧ n σ H) ∨ ((Itc i0 c0 k).go i H ∧ ∃ N : St → Hp → Prop, (∀ σ' H', N σ' H' → ∃ m', m' < m ∧ W (i + 1) m' σ' H') ∧ ∀ x H', (Itc i0 c0 k).yld i H x H' → g x σ H' fun σ2 H2 => tb ⟨N, r, n, N⟩ σ2 H2) := by
  refine ⟨hc, r_each k Pv h0 (fun i σ H hi p => ⟨hi, ?_⟩) fun σ H p => ⟨Nat.le_refl _, hd σ H p⟩⟩
  rintro _ _ ⟨rfl, rfl⟩
  exact hs i σ _ hi p
theorem r_rng2 {ta : TA} {R : It → Hp → Prop} (h : ta σ H fun vs H1 => ∃ i j : Int, vs = [.int i, .int j] ∧ (-(2 ^ 62) ≤ i ∧ i < 2 ^ 62 ∧ -(2 ^ 62) ≤ j ∧ j < 2 ^ 62) ∧ R (Itr i (j - i).toNat) H1) : iRng2 ta σ H R := h
theorem r_rng3 {ta : TA} {R : It → Hp → Prop} (h : ta σ H fun vs H1 => ∃ (i j c : Int) (n : Nat), vs = [.int i, .int j, .int c] ∧ RgC i j c n ∧ R (Itc i c n) H1) : iRng3 ta σ H R := h
theorem r_itL {tl : TE} {R : It → Hp → Prop} (h : tl σ H fun x H1 => ∃ a, x = .ref a ∧ (∃ xs, SqL K H1 a xs) ∧ R (Itl K a) H1) : iList K tl σ H R := h
theorem r_itT {tl : TE} {R : It → Hp → Prop} (h : tl σ H fun x H1 => ∃ a, x = .ref a ∧ (∃ xs, SqT K H1 a xs) ∧ R (Itt K a) H1) : iTup K tl σ H R := h
theorem r_itE {ta : TA} {R : It → Hp → Prop} (h : ta σ H fun vs H1 => ∃ a xs, vs = [.ref a] ∧ SqL K H1 a xs ∧ R (Ite K a) H1) : iEnum K ta σ H R := h
theorem r_itET {ta : TA} {R : It → Hp → Prop} (h : ta σ H fun vs H1 => ∃ a xs, vs = [.ref a] ∧ SqT K H1 a xs ∧ R (Itet K a xs) H1) : iEnumT K ta σ H R := h
theorem r_eqB {i j : Bool} (h : Q (.bl (decide (i = j))) H) : rEq (.bl i) (.bl j) H Q := by
  have e : decide (V.bl i = V.bl j) = decide (i = j) := by simp
  exact ⟨rfl, by rw [e]; exact h⟩
theorem r_neB {i j : Bool} (h : Q (.bl (!decide (i = j))) H) : rNe (.bl i) (.bl j) H Q := by
  have e : decide (V.bl i = V.bl j) = decide (i = j) := by simp
  exact ⟨rfl, by rw [e]; exact h⟩
end
/-- an if whose test is known -/
theorem r_ifB {σ : St} {H : Hp} {D : Ends} {tt : TT} {t u : TS} (b : Bool) (ht : ∀ R : Bool → Hp → Prop, R b H → tt σ H R) (h : if b = true then t D σ H else u D σ H) : tIfS tt t u D σ H := ht _ h

/-! ### an attribute as a target among others -/
section
variable {X : Cx} {o : Expr} {ta : TE} {f : Str} {pos : Pos}
def gFld (K : PySem.W.Frag) (ta : TE) (f : Str) : TG := fun v σ H R => ta σ H fun x H1 => ∃ a C dx fs, x = .ref a ∧ H1 a = some (.ins C dx fs) ∧ Cls K C ∧ NoAttr K C f ∧ fs.length < 1000 ∧ R σ (upd H1 a (.ins C dx (putF f v fs)))
theorem pg_fld (ha : PE X o ta) : PG X (.Attribute o f pos) (gFld X.K ta f) := by
  refine ⟨fun pins s σ H v u Q I r h => ?_⟩
  rw [assign_Attribute]
  refine wpAny_bind (wpAny_holding (thn (ha.run pins s σ H _ I h) fun ov s2 ⟨x, H2, I2, rx, a, C, dx, fs, ex, ea, c, n, l, q2⟩ => ?_))
  subst ex
  obtain rfl : ov = Value.ref a := rx
  refine wpAny_bind (wpAny_standAt (wpAny_bind (wpAny_holding ?_)))
  exact setattr_ok I2 ea c n l r fun s3 I3 => wpAny_release ⟨σ, _, I3, q2⟩
end

local macro_rules | `(tactic| walk_at "rv") => `(tactic| ((with_reducible apply r_var); (· rfl)))
local macro_rules | `(tactic| walk_at "rd1") => `(tactic| first
  | (with_reducible refine r_seq ?_)
  | (with_reducible refine r_asg ?_)
  | (with_reducible refine r_name ?_)
  | ((with_reducible apply r_var); (· rfl))
  | (with_reducible refine r_c ?_)
  | (with_reducible refine r_op ?_)
  | (with_reducible refine r_I0 ?_)
  | (with_reducible refine r_eqI ?_)
  | (with_reducible refine r_neI ?_)
  | (with_reducible refine r_eqS ?_)
  | (with_reducible refine r_neS ?_)
  | (with_reducible refine r_cons ?_)
  | (with_reducible refine r_nil ?_)
  | (with_reducible refine r_if ?_)
  | (with_reducible refine r_test ?_)
  | (with_reducible refine r_B ?_)
  | (with_reducible refine r_bl ?_)
  | (with_reducible refine r_ret ?_)
  | (with_reducible refine r_drop ?_)
  | (with_reducible refine r_un ?_)
  | (with_reducible refine r_U ?_)
  | (with_reducible refine r_CB ?_)
  | (with_reducible refine r_call ?_)
  | (with_reducible refine r_retN ?_)
  | (with_reducible refine r_next ?_)
  | (with_reducible refine r_brk ?_)
  | (with_reducible refine r_ifE ?_)
  | (with_reducible refine r_and ?_)
  | (with_reducible refine r_or ?_)
  | (with_reducible refine r_not ?_)
  | (with_reducible refine r_andV ?_)
  | (with_reducible refine r_orV ?_)
  | (with_reducible refine r_notV ?_)
  | (with_reducible refine r_chain ?_)
  | (with_reducible refine r_iteF ?_)
  | (with_reducible refine r_iteT ?_)
  | (with_reducible refine r_iteNT ?_)
  | (with_reducible refine r_iteNF ?_)
  | ((with_reducible apply r_I); (· first | decide | exact ⟨by decide, by decide⟩ | exact .inr ⟨by decide, by decide⟩ | exact .inl ⟨by decide, by decide⟩ | exact ⟨by decide, by decide, by decide⟩))
  | (with_reducible refine r_bm ?_)
  | (with_reducible refine r_bm0 ?_)
  | (with_reducible refine r_sub ?_)
  | (with_reducible refine r_yes ?_)
  | (with_reducible refine r_fld ?_)
  | (with_reducible refine r_sfld ?_)
  | (with_reducible refine r_meth ?_)
  | (with_reducible refine r_prop ?_)
  | (with_reducible refine r_make ?_)
  | (with_reducible refine r_gcons ?_)
  | (with_reducible refine r_gnil ?_)
  | (with_reducible refine r_rfl ?_)
  | (with_reducible refine r_for ?_)
  | (with_reducible refine r_rng1 ?_)
  | (with_reducible refine r_int1 ?_)
  | (with_reducible refine r_abs ?_)
  | (with_reducible refine r_tup ?_)
  | (with_reducible refine r_lst ?_))
local macro_rules | `(tactic| walk_at "rd") => `(tactic| repeat (walk_at "rd1"))
local macro_rules | `(tactic| walk_at "ri1") => `(tactic| first
  | (with_reducible refine r_seq ?_)
  | (with_reducible refine r_asg ?_)
  | (with_reducible refine r_name ?_)
  | ((with_reducible apply r_var); (· rfl))
  | (with_reducible refine r_c ?_)
  | (with_reducible refine r_op ?_)
  | (with_reducible refine r_I0 ?_)
  | (with_reducible refine r_eqI ?_)
  | (with_reducible refine r_neI ?_)
  | (with_reducible refine r_eqS ?_)
  | (with_reducible refine r_neS ?_)
  | (with_reducible refine r_cons ?_)
  | (with_reducible refine r_nil ?_)
  | (with_reducible refine r_test ?_)
  | (with_reducible refine r_B ?_)
  | (with_reducible refine r_bl ?_)
  | (with_reducible refine r_ret ?_)
  | (with_reducible refine r_drop ?_)
  | (with_reducible refine r_un ?_)
  | (with_reducible refine r_U ?_)
  | (with_reducible refine r_CB ?_)
  | (with_reducible refine r_call ?_)
  | (with_reducible refine r_retN ?_)
  | (with_reducible refine r_next ?_)
  | (with_reducible refine r_brk ?_)
  | (with_reducible refine r_ifE ?_)
  | (with_reducible refine r_and ?_)
  | (with_reducible refine r_or ?_)
  | (with_reducible refine r_not ?_)
  | (with_reducible refine r_andV ?_)
  | (with_reducible refine r_orV ?_)
  | (with_reducible refine r_notV ?_)
  | (with_reducible refine r_chain ?_)
  | (with_reducible refine r_iteF ?_)
  | (with_reducible refine r_iteT ?_)
  | (with_reducible refine r_iteNT ?_)
  | (with_reducible refine r_iteNF ?_)
  | ((with_reducible apply r_I); (· first | decide | exact ⟨by decide, by decide⟩ | exact .inr ⟨by decide, by decide⟩ | exact .inl ⟨by decide, by decide⟩ | exact ⟨by decide, by decide, by decide⟩))
  | (with_reducible refine r_bm ?_)
  | (with_reducible refine r_bm0 ?_)
  | (with_reducible refine r_sub ?_)
  | (with_reducible refine r_yes ?_)
  | (with_reducible refine r_fld ?_)
  | (with_reducible refine r_sfld ?_)
  | (with_reducible refine r_meth ?_)
  | (with_reducible refine r_prop ?_)
  | (with_reducible refine r_make ?_)
  | (with_reducible refine r_gcons ?_)
  | (with_reducible refine r_gnil ?_)
  | (with_reducible refine r_rfl ?_)
  | (with_reducible refine r_for ?_)
  | (with_reducible refine r_rng1 ?_)
  | (with_reducible refine r_int1 ?_)
  | (with_reducible refine r_abs ?_)
  | (with_reducible refine r_tup ?_)
  | (with_reducible refine r_lst ?_))
local macro_rules | `(tactic| walk_at "ri") => `(tactic| repeat (walk_at "ri1"))

abbrev C_Doubled (K : Frg) : Addr := He.ga K "Doubled"
abbrev C_Unwritable (K : Frg) : Addr := He.ga K "Unwritable"
abbrev C_Unreadable (K : Frg) : Addr := He.ga K "Unreadable"
abbrev C_AlikeError (K : Frg) : Addr := He.ga K "AlikeError"
abbrev C_Counted (K : Frg) : Addr := He.ga K "Counted"
abbrev C_Utf8 (K : Frg) : Addr := He.ga K "Utf8"
abbrev C_Begun (K : Frg) : Addr := He.ga K "Begun"
abbrev C_BencodeLoose (K : Frg) : Addr := He.ga K "BencodeLoose"
abbrev C_Numeral (K : Frg) : Addr := He.ga K "Numeral"
abbrev C_BencodeNumber (K : Frg) : Addr := He.ga K "BencodeNumber"
abbrev C_BencodeKey (K : Frg) : Addr := He.ga K "BencodeKey"
abbrev C_Nest (K : Frg) : Addr := He.ga K "Nest"
abbrev C_BencodeScanner (K : Frg) : Addr := He.ga K "BencodeScanner"
abbrev C_Frame (K : Frg) : Addr := He.ga K "Frame"
abbrev C_Builder (K : Frg) : Addr := He.ga K "Builder"
structure Nm (K : Frg) (mg : Str → Option Value) : Prop where
  divmod : mg "divmod" = none
  str : mg "str" = none
  reversed : mg "reversed" = none
  abs : mg "abs" = none
  len : mg "len" = none
  list : mg "list" = none
  tuple : mg "tuple" = none
  range : mg "range" = none
  sorted : mg "sorted" = none
  int : mg "int" = none
  isinstance : mg "isinstance" = none
  bool : mg "bool" = none
  ord : mg "ord" = none
  g_PIECE : ∃ u, mg "PIECE" = some u ∧ RelV (.int 10000000000000000000000000000000000000000000000000000000000000000) u
  g_PIECE_DIGITS : ∃ u, mg "PIECE_DIGITS" = some u ∧ RelV (.int 64) u
  g_ZERO_counted : ∃ u, mg "ZERO_counted" = some u ∧ RelV (.int 48) u
  g_NINE : ∃ u, mg "NINE" = some u ∧ RelV (.int 57) u
  g_COLON : ∃ u, mg "COLON" = some u ∧ RelV (.int 58) u
  g_MARKS : ∃ v u, mg "MARKS" = some u ∧ RelV v u ∧ ∀ H, Dp K H v (.tuple [.int 0, .int 192, .int 224, .int 240])
  g_FIRSTS : ∃ v u, mg "FIRSTS" = some u ∧ RelV v u ∧ ∀ H, Dp K H v (.tuple [.tuple [.int 194, .int 223, .int 1, .int 128, .int 191], .tuple [.int 224, .int 224, .int 2, .int 160, .int 191], .tuple [.int 225, .int 236, .int 2, .int 128, .int 191], .tuple [.int 237, .int 237, .int 2, .int 128, .int 159], .tuple [.int 238, .int 239, .int 2, .int 128, .int 191], .tuple [.int 240, .int 240, .int 3, .int 144, .int 191], .tuple [.int 241, .int 243, .int 3, .int 128, .int 191], .tuple [.int 244, .int 244, .int 3, .int 128, .int 143]])
  g_LARGEST_EXPONENT : ∃ u, mg "LARGEST_EXPONENT" = some u ∧ RelV (.int 800) u
  g_SMALL_E : ∃ u, mg "SMALL_E" = some u ∧ RelV (.int 101) u
  g_SMALL_D : ∃ u, mg "SMALL_D" = some u ∧ RelV (.int 100) u
  g_SMALL_L : ∃ u, mg "SMALL_L" = some u ∧ RelV (.int 108) u
  g_MINUS : ∃ u, mg "MINUS" = some u ∧ RelV (.int 45) u
  g_ZERO_marks : ∃ u, mg "ZERO_marks" = some u ∧ RelV (.int 48) u
  g_DEEPEST : ∃ u, mg "DEEPEST" = some u ∧ RelV (.int 24) u
  g_SMALL_I : ∃ u, mg "SMALL_I" = some u ∧ RelV (.int 105) u
  g_Doubled : mg "Doubled" = some (.ref (C_Doubled K))
  x_Doubled : ExcK K (C_Doubled K) (meAd "AlikeError" "__init__" K) "what"
  g_Unwritable : mg "Unwritable" = some (.ref (C_Unwritable K))
  x_Unwritable : ExcK K (C_Unwritable K) (meAd "AlikeError" "__init__" K) "what"
  g_Unreadable : mg "Unreadable" = some (.ref (C_Unreadable K))
  x_Unreadable : ExcK K (C_Unreadable K) (meAd "AlikeError" "__init__" K) "what"
  g_AlikeError : mg "AlikeError" = some (.ref (C_AlikeError K))
  x_AlikeError : ExcK K (C_AlikeError K) (meAd "AlikeError" "__init__" K) "what"
  y_Unwritable : IsxC K (C_Unwritable K)
  e_Unwritable_AlikeError : PySem.W.exmOne K (.ref (C_Unwritable K)) (.ref (C_AlikeError K)) = some true
  i_Unwritable_Unreadable : PySem.W.kitOne K (.ref (C_Unwritable K)) (.ref (C_Unreadable K)) = some false
  i_Unwritable_Doubled : PySem.W.kitOne K (.ref (C_Unwritable K)) (.ref (C_Doubled K)) = some false
  i_Unwritable_Unwritable : PySem.W.kitOne K (.ref (C_Unwritable K)) (.ref (C_Unwritable K)) = some true
  f_is_lacking : mg "is_lacking" = some (.ref (glAd "is_lacking" K))
  cl_Counted : Cls K (C_Counted K)
  g_Counted : mg "Counted" = some (.ref (C_Counted K))
  mk_Counted : Mk K (C_Counted K) (meAd "Counted" "__init__" K)
  na_Counted_is_done : NoAttr K (C_Counted K) "is_done"
  na_Counted_can_end : NoAttr K (C_Counted K) "can_end"
  na_Counted_has_begun : NoAttr K (C_Counted K) "has_begun"
  na_Counted_octets : NoAttr K (C_Counted K) "octets"
  na_Counted__missing : NoAttr K (C_Counted K) "_missing"
  me_Counted_take : Meth K (C_Counted K) "take" (meAd "Counted" "take" K)
  me_Counted__take_in_count : Meth K (C_Counted K) "_take_in_count" (meAd "Counted" "_take_in_count" K)
  me_Counted_leaf : Meth K (C_Counted K) "leaf" (meAd "Counted" "leaf" K)
  cl_Utf8 : Cls K (C_Utf8 K)
  g_Utf8 : mg "Utf8" = some (.ref (C_Utf8 K))
  mk_Utf8 : Mk K (C_Utf8 K) (meAd "Utf8" "__init__" K)
  na_Utf8_points : NoAttr K (C_Utf8 K) "points"
  na_Utf8__missing : NoAttr K (C_Utf8 K) "_missing"
  na_Utf8__worth : NoAttr K (C_Utf8 K) "_worth"
  na_Utf8__least : NoAttr K (C_Utf8 K) "_least"
  na_Utf8__most : NoAttr K (C_Utf8 K) "_most"
  pr_Utf8_is_open : PropOf K (C_Utf8 K) "is_open" (He.ma K (C_Utf8 K) "is_open") (prAd "Utf8" "is_open" K)
  me_Utf8_take : Meth K (C_Utf8 K) "take" (meAd "Utf8" "take" K)
  me_Utf8__begin : Meth K (C_Utf8 K) "_begin" (meAd "Utf8" "_begin" K)
  me_Utf8__go_on : Meth K (C_Utf8 K) "_go_on" (meAd "Utf8" "_go_on" K)
  cl_Begun : Cls K (C_Begun K)
  g_Begun : mg "Begun" = some (.ref (C_Begun K))
  mk_Begun : Mk K (C_Begun K) (meAd "Begun" "__init__" K)
  na_Begun__many : NoAttr K (C_Begun K) "_many"
  me_Begun_note : Meth K (C_Begun K) "note" (meAd "Begun" "note" K)
  me_Begun__count : Meth K (C_Begun K) "_count" (meAd "Begun" "_count" K)
  cl_BencodeLoose : Cls K (C_BencodeLoose K)
  g_BencodeLoose : mg "BencodeLoose" = some (.ref (C_BencodeLoose K))
  mk_BencodeLoose : Mk K (C_BencodeLoose K) (meAd "BencodeLoose" "__init__" K)
  na_BencodeLoose__begun : NoAttr K (C_BencodeLoose K) "_begun"
  me_BencodeLoose_take : Meth K (C_BencodeLoose K) "take" (meAd "BencodeLoose" "take" K)
  cl_Numeral : Cls K (C_Numeral K)
  g_Numeral : mg "Numeral" = some (.ref (C_Numeral K))
  mk_Numeral : Mk K (C_Numeral K) (meAd "Numeral" "__init__" K)
  na_Numeral__sign : NoAttr K (C_Numeral K) "_sign"
  na_Numeral__worth : NoAttr K (C_Numeral K) "_worth"
  na_Numeral__scale : NoAttr K (C_Numeral K) "_scale"
  na_Numeral__exponent_sign : NoAttr K (C_Numeral K) "_exponent_sign"
  na_Numeral__exponent : NoAttr K (C_Numeral K) "_exponent"
  me_Numeral_negate : Meth K (C_Numeral K) "negate" (meAd "Numeral" "negate" K)
  me_Numeral_negate_exponent : Meth K (C_Numeral K) "negate_exponent" (meAd "Numeral" "negate_exponent" K)
  me_Numeral_add_digit : Meth K (C_Numeral K) "add_digit" (meAd "Numeral" "add_digit" K)
  me_Numeral_add_fraction_digit : Meth K (C_Numeral K) "add_fraction_digit" (meAd "Numeral" "add_fraction_digit" K)
  me_Numeral_add_exponent_digit : Meth K (C_Numeral K) "add_exponent_digit" (meAd "Numeral" "add_exponent_digit" K)
  me_Numeral_pair : Meth K (C_Numeral K) "pair" (meAd "Numeral" "pair" K)
  cl_BencodeNumber : Cls K (C_BencodeNumber K)
  g_BencodeNumber : mg "BencodeNumber" = some (.ref (C_BencodeNumber K))
  mk_BencodeNumber : Mk K (C_BencodeNumber K) (meAd "BencodeNumber" "__init__" K)
  na_BencodeNumber_is_done : NoAttr K (C_BencodeNumber K) "is_done"
  na_BencodeNumber__numeral : NoAttr K (C_BencodeNumber K) "_numeral"
  na_BencodeNumber__state : NoAttr K (C_BencodeNumber K) "_state"
  me_BencodeNumber_take : Meth K (C_BencodeNumber K) "take" (meAd "BencodeNumber" "take" K)
  me_BencodeNumber__take_minus : Meth K (C_BencodeNumber K) "_take_minus" (meAd "BencodeNumber" "_take_minus" K)
  me_BencodeNumber__take_digit : Meth K (C_BencodeNumber K) "_take_digit" (meAd "BencodeNumber" "_take_digit" K)
  me_BencodeNumber_leaf : Meth K (C_BencodeNumber K) "leaf" (meAd "BencodeNumber" "leaf" K)
  cl_BencodeKey : Cls K (C_BencodeKey K)
  g_BencodeKey : mg "BencodeKey" = some (.ref (C_BencodeKey K))
  mk_BencodeKey : Mk K (C_BencodeKey K) (meAd "BencodeKey" "__init__" K)
  na_BencodeKey_is_done : NoAttr K (C_BencodeKey K) "is_done"
  na_BencodeKey__counted : NoAttr K (C_BencodeKey K) "_counted"
  na_BencodeKey__utf8 : NoAttr K (C_BencodeKey K) "_utf8"
  me_BencodeKey_take : Meth K (C_BencodeKey K) "take" (meAd "BencodeKey" "take" K)
  me_BencodeKey_leaf : Meth K (C_BencodeKey K) "leaf" (meAd "BencodeKey" "leaf" K)
  cl_Nest : Cls K (C_Nest K)
  g_Nest : mg "Nest" = some (.ref (C_Nest K))
  mk_Nest : Mk K (C_Nest K) (meAd "Nest" "__init__" K)
  na_Nest__levels : NoAttr K (C_Nest K) "_levels"
  me_Nest_inner : Meth K (C_Nest K) "inner" (meAd "Nest" "inner" K)
  me_Nest_grow : Meth K (C_Nest K) "grow" (meAd "Nest" "grow" K)
  me_Nest_shrink : Meth K (C_Nest K) "shrink" (meAd "Nest" "shrink" K)
  me_Nest_note_key : Meth K (C_Nest K) "note_key" (meAd "Nest" "note_key" K)
  cl_BencodeScanner : Cls K (C_BencodeScanner K)
  g_BencodeScanner : mg "BencodeScanner" = some (.ref (C_BencodeScanner K))
  mk_BencodeScanner : Mk K (C_BencodeScanner K) (meAd "BencodeScanner" "__init__" K)
  na_BencodeScanner__place : NoAttr K (C_BencodeScanner K) "_place"
  na_BencodeScanner__wanted : NoAttr K (C_BencodeScanner K) "_wanted"
  na_BencodeScanner__nest : NoAttr K (C_BencodeScanner K) "_nest"
  na_BencodeScanner__token : NoAttr K (C_BencodeScanner K) "_token"
  me_BencodeScanner_step : Meth K (C_BencodeScanner K) "step" (meAd "BencodeScanner" "step" K)
  me_BencodeScanner_end : Meth K (C_BencodeScanner K) "end" (meAd "BencodeScanner" "end" K)
  me_BencodeScanner__take : Meth K (C_BencodeScanner K) "_take" (meAd "BencodeScanner" "_take" K)
  me_BencodeScanner__end_token : Meth K (C_BencodeScanner K) "_end_token" (meAd "BencodeScanner" "_end_token" K)
  me_BencodeScanner__end_value : Meth K (C_BencodeScanner K) "_end_value" (meAd "BencodeScanner" "_end_value" K)
  me_BencodeScanner__take_mark : Meth K (C_BencodeScanner K) "_take_mark" (meAd "BencodeScanner" "_take_mark" K)
  me_BencodeScanner__begin_counted : Meth K (C_BencodeScanner K) "_begin_counted" (meAd "BencodeScanner" "_begin_counted" K)
  me_BencodeScanner__grow : Meth K (C_BencodeScanner K) "_grow" (meAd "BencodeScanner" "_grow" K)
  me_BencodeScanner__close : Meth K (C_BencodeScanner K) "_close" (meAd "BencodeScanner" "_close" K)
  cl_Frame : Cls K (C_Frame K)
  g_Frame : mg "Frame" = some (.ref (C_Frame K))
  mk_Frame : Mk K (C_Frame K) (meAd "Frame" "__init__" K)
  na_Frame_kind : NoAttr K (C_Frame K) "kind"
  na_Frame_key : NoAttr K (C_Frame K) "key"
  na_Frame_inside : NoAttr K (C_Frame K) "inside"
  me_Frame_put : Meth K (C_Frame K) "put" (meAd "Frame" "put" K)
  me_Frame_built : Meth K (C_Frame K) "built" (meAd "Frame" "built" K)
  cl_Builder : Cls K (C_Builder K)
  g_Builder : mg "Builder" = some (.ref (C_Builder K))
  mk_Builder : Mk K (C_Builder K) (meAd "Builder" "__init__" K)
  na_Builder_is_done : NoAttr K (C_Builder K) "is_done"
  na_Builder_value : NoAttr K (C_Builder K) "value"
  na_Builder__frames : NoAttr K (C_Builder K) "_frames"
  me_Builder_take : Meth K (C_Builder K) "take" (meAd "Builder" "take" K)
  me_Builder__put : Meth K (C_Builder K) "_put" (meAd "Builder" "_put" K)
  dig : DigK K
def fs_Counted (x0 x1 x2 x3 x4 : V) : List (Str × V) := [("is_done", x0), ("can_end", x1), ("has_begun", x2), ("octets", x3), ("_missing", x4)]
theorem lk_Counted_is_done {x0 x1 x2 x3 x4 : V} : (fs_Counted x0 x1 x2 x3 x4).lookup ("is_done" : Str) = some x0 := by
  unfold fs_Counted
  rw [lk_hit]
theorem pt_Counted_is_done {x0 x1 x2 x3 x4 y : V} : putF "is_done" y (fs_Counted x0 x1 x2 x3 x4) = fs_Counted y x1 x2 x3 x4 := by
  unfold fs_Counted
  rw [pf_hit]
theorem in_Counted_is_done {x0 : V} : putF "is_done" x0 ([] : List (Str × V)) = ([("is_done", x0)] : List (Str × V)) := by
  rw [pf_nil]
theorem lk_Counted_can_end {x0 x1 x2 x3 x4 : V} : (fs_Counted x0 x1 x2 x3 x4).lookup ("can_end" : Str) = some x1 := by
  unfold fs_Counted
  rw [lk_miss (by decide +kernel), lk_hit]
theorem pt_Counted_can_end {x0 x1 x2 x3 x4 y : V} : putF "can_end" y (fs_Counted x0 x1 x2 x3 x4) = fs_Counted x0 y x2 x3 x4 := by
  unfold fs_Counted
  rw [pf_miss (by decide +kernel), pf_hit]
theorem in_Counted_can_end {x0 x1 : V} : putF "can_end" x1 ([("is_done", x0)] : List (Str × V)) = ([("is_done", x0), ("can_end", x1)] : List (Str × V)) := by
  rw [pf_miss (by decide +kernel), pf_nil]
theorem lk_Counted_has_begun {x0 x1 x2 x3 x4 : V} : (fs_Counted x0 x1 x2 x3 x4).lookup ("has_begun" : Str) = some x2 := by
  unfold fs_Counted
  rw [lk_miss (by decide +kernel), lk_miss (by decide +kernel), lk_hit]
theorem pt_Counted_has_begun {x0 x1 x2 x3 x4 y : V} : putF "has_begun" y (fs_Counted x0 x1 x2 x3 x4) = fs_Counted x0 x1 y x3 x4 := by
  unfold fs_Counted
  rw [pf_miss (by decide +kernel), pf_miss (by decide +kernel), pf_hit]
theorem in_Counted_has_begun {x0 x1 x2 : V} : putF "has_begun" x2 ([("is_done", x0), ("can_end", x1)] : List (Str × V)) = ([("is_done", x0), ("can_end", x1), ("has_begun", x2)] : List (Str × V)) := by
  rw [pf_miss (by decide +kernel), pf_miss (by decide +kernel), pf_nil]
theorem lk_Counted_octets {x0 x1 x2 x3 x4 : V} : (fs_Counted x0 x1 x2 x3 x4).lookup ("octets" : Str) = some x3 := by
  unfold fs_Counted
  rw [lk_miss (by decide +kernel), lk_miss (by decide +kernel), lk_miss (by decide +kernel), lk_hit]
theorem pt_Counted_octets {x0 x1 x2 x3 x4 y : V} : putF "octets" y (fs_Counted x0 x1 x2 x3 x4) = fs_Counted x0 x1 x2 y x4 := by
  unfold fs_Counted
  rw [pf_miss (by decide +kernel), pf_miss (by decide +kernel), pf_miss (by decide +kernel), pf_hit]
theorem in_Counted_octets {x0 x1 x2 x3 : V} : putF "octets" x3 ([("is_done", x0), ("can_end", x1), ("has_begun", x2)] : List (Str × V)) = ([("is_done", x0), ("can_end", x1), ("has_begun", x2), ("octets", x3)] : List (Str × V)) := by
  rw [pf_miss (by decide +kernel), pf_miss (by decide +kernel), pf_miss (by decide +kernel), pf_nil]
theorem lk_Counted__missing {x0 x1 x2 x3 x4 : V} : (fs_Counted x0 x1 x2 x3 x4).lookup ("_missing" : Str) = some x4 := by
  unfold fs_Counted
  rw [lk_miss (by decide +kernel), lk_miss (by decide +kernel), lk_miss (by decide +kernel), lk_miss (by decide +kernel), lk_hit]
theorem pt_Counted__missing {x0 x1 x2 x3 x4 y : V} : putF "_missing" y (fs_Counted x0 x1 x2 x3 x4) = fs_Counted x0 x1 x2 x3 y := by
  unfold fs_Counted
  rw [pf_miss (by decide +kernel), pf_miss (by decide +kernel), pf_miss (by decide +kernel), pf_miss (by decide +kernel), pf_hit]
theorem in_Counted__missing {x0 x1 x2 x3 x4 : V} : putF "_missing" x4 ([("is_done", x0), ("can_end", x1), ("has_begun", x2), ("octets", x3)] : List (Str × V)) = ([("is_done", x0), ("can_end", x1), ("has_begun", x2), ("octets", x3), ("_missing", x4)] : List (Str × V)) := by
  rw [pf_miss (by decide +kernel), pf_miss (by decide +kernel), pf_miss (by decide +kernel), pf_miss (by decide +kernel), pf_nil]
theorem no_Counted_take {x0 x1 x2 x3 x4 : V} : (fs_Counted x0 x1 x2 x3 x4).lookup ("take" : Str) = none := by
  unfold fs_Counted
  rw [lk_miss (by decide +kernel), lk_miss (by decide +kernel), lk_miss (by decide +kernel), lk_miss (by decide +kernel), lk_miss (by decide +kernel)] <;> rfl
theorem no_Counted__take_in_count {x0 x1 x2 x3 x4 : V} : (fs_Counted x0 x1 x2 x3 x4).lookup ("_take_in_count" : Str) = none := by
  unfold fs_Counted
  rw [lk_miss (by decide +kernel), lk_miss (by decide +kernel), lk_miss (by decide +kernel), lk_miss (by decide +kernel), lk_miss (by decide +kernel)] <;> rfl
theorem no_Counted_leaf {x0 x1 x2 x3 x4 : V} : (fs_Counted x0 x1 x2 x3 x4).lookup ("leaf" : Str) = none := by
  unfold fs_Counted
  rw [lk_miss (by decide +kernel), lk_miss (by decide +kernel), lk_miss (by decide +kernel), lk_miss (by decide +kernel), lk_miss (by decide +kernel)] <;> rfl
theorem few_Counted {x0 x1 x2 x3 x4 : V} : (fs_Counted x0 x1 x2 x3 x4).length < 1000 := by
  show 5 < 1000
  decide
def fs_Utf8 (x0 x1 x2 x3 x4 : V) : List (Str × V) := [("points", x0), ("_missing", x1), ("_worth", x2), ("_least", x3), ("_most", x4)]
theorem lk_Utf8_points {x0 x1 x2 x3 x4 : V} : (fs_Utf8 x0 x1 x2 x3 x4).lookup ("points" : Str) = some x0 := by
  unfold fs_Utf8
  rw [lk_hit]
theorem pt_Utf8_points {x0 x1 x2 x3 x4 y : V} : putF "points" y (fs_Utf8 x0 x1 x2 x3 x4) = fs_Utf8 y x1 x2 x3 x4 := by
  unfold fs_Utf8
  rw [pf_hit]
theorem in_Utf8_points {x0 : V} : putF "points" x0 ([] : List (Str × V)) = ([("points", x0)] : List (Str × V)) := by
  rw [pf_nil]
theorem lk_Utf8__missing {x0 x1 x2 x3 x4 : V} : (fs_Utf8 x0 x1 x2 x3 x4).lookup ("_missing" : Str) = some x1 := by
  unfold fs_Utf8
  rw [lk_miss (by decide +kernel), lk_hit]
theorem pt_Utf8__missing {x0 x1 x2 x3 x4 y : V} : putF "_missing" y (fs_Utf8 x0 x1 x2 x3 x4) = fs_Utf8 x0 y x2 x3 x4 := by
  unfold fs_Utf8
  rw [pf_miss (by decide +kernel), pf_hit]
theorem in_Utf8__missing {x0 x1 : V} : putF "_missing" x1 ([("points", x0)] : List (Str × V)) = ([("points", x0), ("_missing", x1)] : List (Str × V)) := by
  rw [pf_miss (by decide +kernel), pf_nil]
theorem lk_Utf8__worth {x0 x1 x2 x3 x4 : V} : (fs_Utf8 x0 x1 x2 x3 x4).lookup ("_worth" : Str) = some x2 := by
  unfold fs_Utf8
  rw [lk_miss (by decide +kernel), lk_miss (by decide +kernel), lk_hit]
theorem pt_Utf8__worth {x0 x1 x2 x3 x4 y : V} : putF "_worth" y (fs_Utf8 x0 x1 x2 x3 x4) = fs_Utf8 x0 x1 y x3 x4 := by
  unfold fs_Utf8
  rw [pf_miss (by decide +kernel), pf_miss (by decide +kernel), pf_hit]
theorem in_Utf8__worth {x0 x1 x2 : V} : putF "_worth" x2 ([("points", x0), ("_missing", x1)] : List (Str × V)) = ([("points", x0), ("_missing", x1), ("_worth", x2)] : List (Str × V)) := by
  rw [pf_miss (by decide +kernel), pf_miss (by decide +kernel), pf_nil]
theorem lk_Utf8__least {x0 x1 x2 x3 x4 : V} : (fs_Utf8 x0 x1 x2 x3 x4).lookup ("_least" : Str) = some x3 := by
  unfold fs_Utf8
  rw [lk_miss (by decide +kernel), lk_miss (by decide +kernel), lk_miss (by decide +kernel), lk_hit]
theorem pt_Utf8__least {x0 x1 x2 x3 x4 y : V} : putF "_least" y (fs_Utf8 x0 x1 x2 x3 x4) = fs_Utf8 x0 x1 x2 y x4 := by
  unfold fs_Utf8
  rw [pf_miss (by decide +kernel), pf_miss (by decide +kernel), pf_miss (by decide +kernel), pf_hit]
theorem in_Utf8__least {x0 x1 x2 x3 : V} : putF "_least" x3 ([("points", x0), ("_missing", x1), ("_worth", x2)] : List (Str × V)) = ([("points", x0), ("_missing", x1), ("_worth", x2), ("_least", x3)] : List (Str × V)) := by
  rw [pf_miss (by decide +kernel), pf_miss (by decide +kernel), pf_miss (by decide +kernel), pf_nil]
theorem lk_Utf8__most {x0 x1 x2 x3 x4 : V} : (fs_Utf8 x0 x1 x2 x3 x4).lookup ("_most" : Str) = some x4 := by
  unfold fs_Utf8
  rw [lk_miss (by decide +kernel), lk_miss (by decide +kernel), lk_miss (by decide +kernel), lk_miss (by decide +kernel), lk_hit]
theorem pt_Utf8__most {x0 x1 x2 x3 x4 y : V} : putF "_most" y (fs_Utf8 x0 x1 x2 x3 x4) = fs_Utf8 x0 x1 x2 x3 y := by
  unfold fs_Utf8
  rw [pf_miss (by decide +kernel), pf_miss (by decide +kernel), pf_miss (by decide +kernel), pf_miss (by decide +kernel), pf_hit]
theorem in_Utf8__most {x0 x1 x2 x3 x4 : V} : putF "_most" x4 ([("points", x0), ("_missing", x1), ("_worth", x2), ("_least", x3)] : List (Str × V)) = ([("points", x0), ("_missing", x1), ("_worth", x2), ("_least", x3), ("_most", x4)] : List (Str × V)) := by
  rw [pf_miss (by decide +kernel), pf_miss (by decide +kernel), pf_miss (by decide +kernel), pf_miss (by decide +kernel), pf_nil]
theorem no_Utf8_take {x0 x1 x2 x3 x4 : V} : (fs_Utf8 x0 x1 x2 x3 x4).lookup ("take" : Str) = none := by
  unfold fs_Utf8
  rw [lk_miss (by decide +kernel), lk_miss (by decide +kernel), lk_miss (by decide +kernel), lk_miss (by decide +kernel), lk_miss (by decide +kernel)] <;> rfl
theorem no_Utf8__begin {x0 x1 x2 x3 x4 : V} : (fs_Utf8 x0 x1 x2 x3 x4).lookup ("_begin" : Str) = none := by
  unfold fs_Utf8
  rw [lk_miss (by decide +kernel), lk_miss (by decide +kernel), lk_miss (by decide +kernel), lk_miss (by decide +kernel), lk_miss (by decide +kernel)] <;> rfl
theorem no_Utf8__go_on {x0 x1 x2 x3 x4 : V} : (fs_Utf8 x0 x1 x2 x3 x4).lookup ("_go_on" : Str) = none := by
  unfold fs_Utf8
  rw [lk_miss (by decide +kernel), lk_miss (by decide +kernel), lk_miss (by decide +kernel), lk_miss (by decide +kernel), lk_miss (by decide +kernel)] <;> rfl
theorem few_Utf8 {x0 x1 x2 x3 x4 : V} : (fs_Utf8 x0 x1 x2 x3 x4).length < 1000 := by
  show 5 < 1000
  decide
def fs_Begun (x0 : V) : List (Str × V) := [("_many", x0)]
theorem lk_Begun__many {x0 : V} : (fs_Begun x0).lookup ("_many" : Str) = some x0 := by
  unfold fs_Begun
  rw [lk_hit]
theorem pt_Begun__many {x0 y : V} : putF "_many" y (fs_Begun x0) = fs_Begun y := by
  unfold fs_Begun
  rw [pf_hit]
theorem in_Begun__many {x0 : V} : putF "_many" x0 ([] : List (Str × V)) = ([("_many", x0)] : List (Str × V)) := by
  rw [pf_nil]
theorem no_Begun_note {x0 : V} : (fs_Begun x0).lookup ("note" : Str) = none := by
  unfold fs_Begun
  rw [lk_miss (by decide +kernel)] <;> rfl
theorem no_Begun__count {x0 : V} : (fs_Begun x0).lookup ("_count" : Str) = none := by
  unfold fs_Begun
  rw [lk_miss (by decide +kernel)] <;> rfl
theorem few_Begun {x0 : V} : (fs_Begun x0).length < 1000 := by
  show 1 < 1000
  decide
def fs_BencodeLoose (x0 : V) : List (Str × V) := [("_begun", x0)]
theorem lk_BencodeLoose__begun {x0 : V} : (fs_BencodeLoose x0).lookup ("_begun" : Str) = some x0 := by
  unfold fs_BencodeLoose
  rw [lk_hit]
theorem pt_BencodeLoose__begun {x0 y : V} : putF "_begun" y (fs_BencodeLoose x0) = fs_BencodeLoose y := by
  unfold fs_BencodeLoose
  rw [pf_hit]
theorem in_BencodeLoose__begun {x0 : V} : putF "_begun" x0 ([] : List (Str × V)) = ([("_begun", x0)] : List (Str × V)) := by
  rw [pf_nil]
theorem no_BencodeLoose_take {x0 : V} : (fs_BencodeLoose x0).lookup ("take" : Str) = none := by
  unfold fs_BencodeLoose
  rw [lk_miss (by decide +kernel)] <;> rfl
theorem few_BencodeLoose {x0 : V} : (fs_BencodeLoose x0).length < 1000 := by
  show 1 < 1000
  decide
def fs_Numeral (x0 x1 x2 x3 x4 : V) : List (Str × V) := [("_sign", x0), ("_worth", x1), ("_scale", x2), ("_exponent_sign", x3), ("_exponent", x4)]
theorem lk_Numeral__sign {x0 x1 x2 x3 x4 : V} : (fs_Numeral x0 x1 x2 x3 x4).lookup ("_sign" : Str) = some x0 := by
  unfold fs_Numeral
  rw [lk_hit]
theorem pt_Numeral__sign {x0 x1 x2 x3 x4 y : V} : putF "_sign" y (fs_Numeral x0 x1 x2 x3 x4) = fs_Numeral y x1 x2 x3 x4 := by
  unfold fs_Numeral
  rw [pf_hit]
theorem in_Numeral__sign {x0 : V} : putF "_sign" x0 ([] : List (Str × V)) = ([("_sign", x0)] : List (Str × V)) := by
  rw [pf_nil]
theorem lk_Numeral__worth {x0 x1 x2 x3 x4 : V} : (fs_Numeral x0 x1 x2 x3 x4).lookup ("_worth" : Str) = some x1 := by
  unfold fs_Numeral
  rw [lk_miss (by decide +kernel), lk_hit]
theorem pt_Numeral__worth {x0 x1 x2 x3 x4 y : V} : putF "_worth" y (fs_Numeral x0 x1 x2 x3 x4) = fs_Numeral x0 y x2 x3 x4 := by
  unfold fs_Numeral
  rw [pf_miss (by decide +kernel), pf_hit]
theorem in_Numeral__worth {x0 x1 : V} : putF "_worth" x1 ([("_sign", x0)] : List (Str × V)) = ([("_sign", x0), ("_worth", x1)] : List (Str × V)) := by
  rw [pf_miss (by decide +kernel), pf_nil]
theorem lk_Numeral__scale {x0 x1 x2 x3 x4 : V} : (fs_Numeral x0 x1 x2 x3 x4).lookup ("_scale" : Str) = some x2 := by
  unfold fs_Numeral
  rw [lk_miss (by decide +kernel), lk_miss (by decide +kernel), lk_hit]
theorem pt_Numeral__scale {x0 x1 x2 x3 x4 y : V} : putF "_scale" y (fs_Numeral x0 x1 x2 x3 x4) = fs_Numeral x0 x1 y x3 x4 := by
  unfold fs_Numeral
  rw [pf_miss (by decide +kernel), pf_miss (by decide +kernel), pf_hit]
theorem in_Numeral__scale {x0 x1 x2 : V} : putF "_scale" x2 ([("_sign", x0), ("_worth", x1)] : List (Str × V)) = ([("_sign", x0), ("_worth", x1), ("_scale", x2)] : List (Str × V)) := by
  rw [pf_miss (by decide +kernel), pf_miss (by decide +kernel), pf_nil]
theorem lk_Numeral__exponent_sign {x0 x1 x2 x3 x4 : V} : (fs_Numeral x0 x1 x2 x3 x4).lookup ("_exponent_sign" : Str) = some x3 := by
  unfold fs_Numeral
  rw [lk_miss (by decide +kernel), lk_miss (by decide +kernel), lk_miss (by decide +kernel), lk_hit]
theorem pt_Numeral__exponent_sign {x0 x1 x2 x3 x4 y : V} : putF "_exponent_sign" y (fs_Numeral x0 x1 x2 x3 x4) = fs_Numeral x0 x1 x2 y x4 := by
  unfold fs_Numeral
  rw [pf_miss (by decide +kernel), pf_miss (by decide +kernel), pf_miss (by decide +kernel), pf_hit]
theorem in_Numeral__exponent_sign {x0 x1 x2 x3 : V} : putF "_exponent_sign" x3 ([("_sign", x0), ("_worth", x1), ("_scale", x2)] : List (Str × V)) = ([("_sign", x0), ("_worth", x1), ("_scale", x2), ("_exponent_sign", x3)] : List (Str × V)) := by
  rw [pf_miss (by decide +kernel), pf_miss (by decide +kernel), pf_miss (by decide +kernel), pf_nil]
theorem lk_Numeral__exponent {x0 x1 x2 x3 x4 : V} : (fs_Numeral x0 x1 x2 x3 x4).lookup ("_exponent" : Str) = some x4 := by
  unfold fs_Numeral
  rw [lk_miss (by decide +kernel), lk_miss (by decide +kernel), lk_miss (by decide +kernel), lk_miss (by decide +kernel), lk_hit]
theorem pt_Numeral__exponent {x0 x1 x2 x3 x4 y : V} : putF "_exponent" y (fs_Numeral x0 x1 x2 x3 x4) = fs_Numeral x0 x1 x2 x3 y := by
  unfold fs_Numeral
  rw [pf_miss (by decide +kernel), pf_miss (by decide +kernel), pf_miss (by decide +kernel), pf_miss (by decide +kernel), pf_hit]
theorem in_Numeral__exponent {x0 x1 x2 x3 x4 : V} : putF "_exponent" x4 ([("_sign", x0), ("_worth", x1), ("_scale", x2), ("_exponent_sign", x3)] : List (Str × V)) = ([("_sign", x0), ("_worth", x1), ("_scale", x2), ("_exponent_sign", x3), ("_exponent", x4)] : List (Str × V)) := by
  rw [pf_miss (by decide +kernel), pf_miss (by decide +kernel), pf_miss (by decide +kernel), pf_miss (by decide +kernel), pf_nil]
theorem no_Numeral_negate {x0 x1 x2 x3 x4 : V} : (fs_Numeral x0 x1 x2 x3 x4).lookup ("negate" : Str) = none := by
  unfold fs_Numeral
  rw [lk_miss (by decide +kernel), lk_miss (by decide +kernel), lk_miss (by decide +kernel), lk_miss (by decide +kernel), lk_miss (by decide +kernel)] <;> rfl
theorem no_Numeral_negate_exponent {x0 x1 x2 x3 x4 : V} : (fs_Numeral x0 x1 x2 x3 x4).lookup ("negate_exponent" : Str) = none := by
  unfold fs_Numeral
  rw [lk_miss (by decide +kernel), lk_miss (by decide +kernel), lk_miss (by decide +kernel), lk_miss (by decide +kernel), lk_miss (by decide +kernel)] <;> rfl
theorem no_Numeral_add_digit {x0 x1 x2 x3 x4 : V} : (fs_Numeral x0 x1 x2 x3 x4).lookup ("add_digit" : Str) = none := by
  unfold fs_Numeral
  rw [lk_miss (by decide +kernel), lk_miss (by decide +kernel), lk_miss (by decide +kernel), lk_miss (by decide +kernel), lk_miss (by decide +kernel)] <;> rfl
theorem no_Numeral_add_fraction_digit {x0 x1 x2 x3 x4 : V} : (fs_Numeral x0 x1 x2 x3 x4).lookup ("add_fraction_digit" : Str) = none := by
  unfold fs_Numeral
  rw [lk_miss (by decide +kernel), lk_miss (by decide +kernel), lk_miss (by decide +kernel), lk_miss (by decide +kernel), lk_miss (by decide +kernel)] <;> rfl
theorem no_Numeral_add_exponent_digit {x0 x1 x2 x3 x4 : V} : (fs_Numeral x0 x1 x2 x3 x4).lookup ("add_exponent_digit" : Str) = none := by
  unfold fs_Numeral
  rw [lk_miss (by decide +kernel), lk_miss (by decide +kernel), lk_miss (by decide +kernel), lk_miss (by decide +kernel), lk_miss (by decide +kernel)] <;> rfl
theorem no_Numeral_pair {x0 x1 x2 x3 x4 : V} : (fs_Numeral x0 x1 x2 x3 x4).lookup ("pair" : Str) = none := by
  unfold fs_Numeral
  rw [lk_miss (by decide +kernel), lk_miss (by decide +kernel), lk_miss (by decide +kernel), lk_miss (by decide +kernel), lk_miss (by decide +kernel)] <;> rfl
theorem few_Numeral {x0 x1 x2 x3 x4 : V} : (fs_Numeral x0 x1 x2 x3 x4).length < 1000 := by
  show 5 < 1000
  decide
def fs_BencodeNumber (x0 x1 x2 : V) : List (Str × V) := [("is_done", x0), ("_numeral", x1), ("_state", x2)]
theorem lk_BencodeNumber_is_done {x0 x1 x2 : V} : (fs_BencodeNumber x0 x1 x2).lookup ("is_done" : Str) = some x0 := by
  unfold fs_BencodeNumber
  rw [lk_hit]
theorem pt_BencodeNumber_is_done {x0 x1 x2 y : V} : putF "is_done" y (fs_BencodeNumber x0 x1 x2) = fs_BencodeNumber y x1 x2 := by
  unfold fs_BencodeNumber
  rw [pf_hit]
theorem in_BencodeNumber_is_done {x0 : V} : putF "is_done" x0 ([] : List (Str × V)) = ([("is_done", x0)] : List (Str × V)) := by
  rw [pf_nil]
theorem lk_BencodeNumber__numeral {x0 x1 x2 : V} : (fs_BencodeNumber x0 x1 x2).lookup ("_numeral" : Str) = some x1 := by
  unfold fs_BencodeNumber
  rw [lk_miss (by decide +kernel), lk_hit]
theorem pt_BencodeNumber__numeral {x0 x1 x2 y : V} : putF "_numeral" y (fs_BencodeNumber x0 x1 x2) = fs_BencodeNumber x0 y x2 := by
  unfold fs_BencodeNumber
  rw [pf_miss (by decide +kernel), pf_hit]
theorem in_BencodeNumber__numeral {x0 x1 : V} : putF "_numeral" x1 ([("is_done", x0)] : List (Str × V)) = ([("is_done", x0), ("_numeral", x1)] : List (Str × V)) := by
  rw [pf_miss (by decide +kernel), pf_nil]
theorem lk_BencodeNumber__state {x0 x1 x2 : V} : (fs_BencodeNumber x0 x1 x2).lookup ("_state" : Str) = some x2 := by
  unfold fs_BencodeNumber
  rw [lk_miss (by decide +kernel), lk_miss (by decide +kernel), lk_hit]
theorem pt_BencodeNumber__state {x0 x1 x2 y : V} : putF "_state" y (fs_BencodeNumber x0 x1 x2) = fs_BencodeNumber x0 x1 y := by
  unfold fs_BencodeNumber
  rw [pf_miss (by decide +kernel), pf_miss (by decide +kernel), pf_hit]
theorem in_BencodeNumber__state {x0 x1 x2 : V} : putF "_state" x2 ([("is_done", x0), ("_numeral", x1)] : List (Str × V)) = ([("is_done", x0), ("_numeral", x1), ("_state", x2)] : List (Str × V)) := by
  rw [pf_miss (by decide +kernel), pf_miss (by decide +kernel), pf_nil]
theorem no_BencodeNumber_take {x0 x1 x2 : V} : (fs_BencodeNumber x0 x1 x2).lookup ("take" : Str) = none := by
  unfold fs_BencodeNumber
  rw [lk_miss (by decide +kernel), lk_miss (by decide +kernel), lk_miss (by decide +kernel)] <;> rfl
theorem no_BencodeNumber__take_minus {x0 x1 x2 : V} : (fs_BencodeNumber x0 x1 x2).lookup ("_take_minus" : Str) = none := by
  unfold fs_BencodeNumber
  rw [lk_miss (by decide +kernel), lk_miss (by decide +kernel), lk_miss (by decide +kernel)] <;> rfl
theorem no_BencodeNumber__take_digit {x0 x1 x2 : V} : (fs_BencodeNumber x0 x1 x2).lookup ("_take_digit" : Str) = none := by
  unfold fs_BencodeNumber
  rw [lk_miss (by decide +kernel), lk_miss (by decide +kernel), lk_miss (by decide +kernel)] <;> rfl
theorem no_BencodeNumber_leaf {x0 x1 x2 : V} : (fs_BencodeNumber x0 x1 x2).lookup ("leaf" : Str) = none := by
  unfold fs_BencodeNumber
  rw [lk_miss (by decide +kernel), lk_miss (by decide +kernel), lk_miss (by decide +kernel)] <;> rfl
theorem few_BencodeNumber {x0 x1 x2 : V} : (fs_BencodeNumber x0 x1 x2).length < 1000 := by
  show 3 < 1000
  decide
def fs_BencodeKey (x0 x1 x2 : V) : List (Str × V) := [("is_done", x0), ("_counted", x1), ("_utf8", x2)]
theorem lk_BencodeKey_is_done {x0 x1 x2 : V} : (fs_BencodeKey x0 x1 x2).lookup ("is_done" : Str) = some x0 := by
  unfold fs_BencodeKey
  rw [lk_hit]
theorem pt_BencodeKey_is_done {x0 x1 x2 y : V} : putF "is_done" y (fs_BencodeKey x0 x1 x2) = fs_BencodeKey y x1 x2 := by
  unfold fs_BencodeKey
  rw [pf_hit]
theorem in_BencodeKey_is_done {x0 : V} : putF "is_done" x0 ([] : List (Str × V)) = ([("is_done", x0)] : List (Str × V)) := by
  rw [pf_nil]
theorem lk_BencodeKey__counted {x0 x1 x2 : V} : (fs_BencodeKey x0 x1 x2).lookup ("_counted" : Str) = some x1 := by
  unfold fs_BencodeKey
  rw [lk_miss (by decide +kernel), lk_hit]
theorem pt_BencodeKey__counted {x0 x1 x2 y : V} : putF "_counted" y (fs_BencodeKey x0 x1 x2) = fs_BencodeKey x0 y x2 := by
  unfold fs_BencodeKey
  rw [pf_miss (by decide +kernel), pf_hit]
theorem in_BencodeKey__counted {x0 x1 : V} : putF "_counted" x1 ([("is_done", x0)] : List (Str × V)) = ([("is_done", x0), ("_counted", x1)] : List (Str × V)) := by
  rw [pf_miss (by decide +kernel), pf_nil]
theorem lk_BencodeKey__utf8 {x0 x1 x2 : V} : (fs_BencodeKey x0 x1 x2).lookup ("_utf8" : Str) = some x2 := by
  unfold fs_BencodeKey
  rw [lk_miss (by decide +kernel), lk_miss (by decide +kernel), lk_hit]
theorem pt_BencodeKey__utf8 {x0 x1 x2 y : V} : putF "_utf8" y (fs_BencodeKey x0 x1 x2) = fs_BencodeKey x0 x1 y := by
  unfold fs_BencodeKey
  rw [pf_miss (by decide +kernel), pf_miss (by decide +kernel), pf_hit]
theorem in_BencodeKey__utf8 {x0 x1 x2 : V} : putF "_utf8" x2 ([("is_done", x0), ("_counted", x1)] : List (Str × V)) = ([("is_done", x0), ("_counted", x1), ("_utf8", x2)] : List (Str × V)) := by
  rw [pf_miss (by decide +kernel), pf_miss (by decide +kernel), pf_nil]
theorem no_BencodeKey_take {x0 x1 x2 : V} : (fs_BencodeKey x0 x1 x2).lookup ("take" : Str) = none := by
  unfold fs_BencodeKey
  rw [lk_miss (by decide +kernel), lk_miss (by decide +kernel), lk_miss (by decide +kernel)] <;> rfl
theorem no_BencodeKey_leaf {x0 x1 x2 : V} : (fs_BencodeKey x0 x1 x2).lookup ("leaf" : Str) = none := by
  unfold fs_BencodeKey
  rw [lk_miss (by decide +kernel), lk_miss (by decide +kernel), lk_miss (by decide +kernel)] <;> rfl
theorem few_BencodeKey {x0 x1 x2 : V} : (fs_BencodeKey x0 x1 x2).length < 1000 := by
  show 3 < 1000
  decide
def fs_Nest (x0 : V) : List (Str × V) := [("_levels", x0)]
theorem lk_Nest__levels {x0 : V} : (fs_Nest x0).lookup ("_levels" : Str) = some x0 := by
  unfold fs_Nest
  rw [lk_hit]
theorem pt_Nest__levels {x0 y : V} : putF "_levels" y (fs_Nest x0) = fs_Nest y := by
  unfold fs_Nest
  rw [pf_hit]
theorem in_Nest__levels {x0 : V} : putF "_levels" x0 ([] : List (Str × V)) = ([("_levels", x0)] : List (Str × V)) := by
  rw [pf_nil]
theorem no_Nest_inner {x0 : V} : (fs_Nest x0).lookup ("inner" : Str) = none := by
  unfold fs_Nest
  rw [lk_miss (by decide +kernel)] <;> rfl
theorem no_Nest_grow {x0 : V} : (fs_Nest x0).lookup ("grow" : Str) = none := by
  unfold fs_Nest
  rw [lk_miss (by decide +kernel)] <;> rfl
theorem no_Nest_shrink {x0 : V} : (fs_Nest x0).lookup ("shrink" : Str) = none := by
  unfold fs_Nest
  rw [lk_miss (by decide +kernel)] <;> rfl
theorem no_Nest_note_key {x0 : V} : (fs_Nest x0).lookup ("note_key" : Str) = none := by
  unfold fs_Nest
  rw [lk_miss (by decide +kernel)] <;> rfl
theorem few_Nest {x0 : V} : (fs_Nest x0).length < 1000 := by
  show 1 < 1000
  decide
def fs_BencodeScanner (x0 x1 x2 x3 : V) : List (Str × V) := [("_place", x0), ("_wanted", x1), ("_nest", x2), ("_token", x3)]
theorem lk_BencodeScanner__place {x0 x1 x2 x3 : V} : (fs_BencodeScanner x0 x1 x2 x3).lookup ("_place" : Str) = some x0 := by
  unfold fs_BencodeScanner
  rw [lk_hit]
theorem pt_BencodeScanner__place {x0 x1 x2 x3 y : V} : putF "_place" y (fs_BencodeScanner x0 x1 x2 x3) = fs_BencodeScanner y x1 x2 x3 := by
  unfold fs_BencodeScanner
  rw [pf_hit]
theorem in_BencodeScanner__place {x0 : V} : putF "_place" x0 ([] : List (Str × V)) = ([("_place", x0)] : List (Str × V)) := by
  rw [pf_nil]
theorem lk_BencodeScanner__wanted {x0 x1 x2 x3 : V} : (fs_BencodeScanner x0 x1 x2 x3).lookup ("_wanted" : Str) = some x1 := by
  unfold fs_BencodeScanner
  rw [lk_miss (by decide +kernel), lk_hit]
theorem pt_BencodeScanner__wanted {x0 x1 x2 x3 y : V} : putF "_wanted" y (fs_BencodeScanner x0 x1 x2 x3) = fs_BencodeScanner x0 y x2 x3 := by
  unfold fs_BencodeScanner
  rw [pf_miss (by decide +kernel), pf_hit]
theorem in_BencodeScanner__wanted {x0 x1 : V} : putF "_wanted" x1 ([("_place", x0)] : List (Str × V)) = ([("_place", x0), ("_wanted", x1)] : List (Str × V)) := by
  rw [pf_miss (by decide +kernel), pf_nil]
theorem lk_BencodeScanner__nest {x0 x1 x2 x3 : V} : (fs_BencodeScanner x0 x1 x2 x3).lookup ("_nest" : Str) = some x2 := by
  unfold fs_BencodeScanner
  rw [lk_miss (by decide +kernel), lk_miss (by decide +kernel), lk_hit]
theorem pt_BencodeScanner__nest {x0 x1 x2 x3 y : V} : putF "_nest" y (fs_BencodeScanner x0 x1 x2 x3) = fs_BencodeScanner x0 x1 y x3 := by
  unfold fs_BencodeScanner
  rw [pf_miss (by decide +kernel), pf_miss (by decide +kernel), pf_hit]
theorem in_BencodeScanner__nest {x0 x1 x2 : V} : putF "_nest" x2 ([("_place", x0), ("_wanted", x1)] : List (Str × V)) = ([("_place", x0), ("_wanted", x1), ("_nest", x2)] : List (Str × V)) := by
  rw [pf_miss (by decide +kernel), pf_miss (by decide +kernel), pf_nil]
theorem lk_BencodeScanner__token {x0 x1 x2 x3 : V} : (fs_BencodeScanner x0 x1 x2 x3).lookup ("_token" : Str) = some x3 := by
  unfold fs_BencodeScanner
  rw [lk_miss (by decide +kernel), lk_miss (by decide +kernel), lk_miss (by decide +kernel), lk_hit]
theorem pt_BencodeScanner__token {x0 x1 x2 x3 y : V} : putF "_token" y (fs_BencodeScanner x0 x1 x2 x3) = fs_BencodeScanner x0 x1 x2 y := by
  unfold fs_BencodeScanner
  rw [pf_miss (by decide +kernel), pf_miss (by decide +kernel), pf_miss (by decide +kernel), pf_hit]
theorem in_BencodeScanner__token {x0 x1 x2 x3 : V} : putF "_token" x3 ([("_place", x0), ("_wanted", x1), ("_nest", x2)] : List (Str × V)) = ([("_place", x0), ("_wanted", x1), ("_nest", x2), ("_token", x3)] : List (Str × V)) := by
  rw [pf_miss (by decide +kernel), pf_miss (by decide +kernel), pf_miss (by decide +kernel), pf_nil]
theorem no_BencodeScanner_step {x0 x1 x2 x3 : V} : (fs_BencodeScanner x0 x1 x2 x3).lookup ("step" : Str) = none := by
  unfold fs_BencodeScanner
  rw [lk_miss (by decide +kernel), lk_miss (by decide +kernel), lk_miss (by decide +kernel), lk_miss (by decide +kernel)] <;> rfl
theorem no_BencodeScanner_end {x0 x1 x2 x3 : V} : (fs_BencodeScanner x0 x1 x2 x3).lookup ("end" : Str) = none := by
  unfold fs_BencodeScanner
  rw [lk_miss (by decide +kernel), lk_miss (by decide +kernel), lk_miss (by decide +kernel), lk_miss (by decide +kernel)] <;> rfl
theorem no_BencodeScanner__take {x0 x1 x2 x3 : V} : (fs_BencodeScanner x0 x1 x2 x3).lookup ("_take" : Str) = none := by
  unfold fs_BencodeScanner
  rw [lk_miss (by decide +kernel), lk_miss (by decide +kernel), lk_miss (by decide +kernel), lk_miss (by decide +kernel)] <;> rfl
theorem no_BencodeScanner__end_token {x0 x1 x2 x3 : V} : (fs_BencodeScanner x0 x1 x2 x3).lookup ("_end_token" : Str) = none := by
  unfold fs_BencodeScanner
  rw [lk_miss (by decide +kernel), lk_miss (by decide +kernel), lk_miss (by decide +kernel), lk_miss (by decide +kernel)] <;> rfl
theorem no_BencodeScanner__end_value {x0 x1 x2 x3 : V} : (fs_BencodeScanner x0 x1 x2 x3).lookup ("_end_value" : Str) = none := by
  unfold fs_BencodeScanner
  rw [lk_miss (by decide +kernel), lk_miss (by decide +kernel), lk_miss (by decide +kernel), lk_miss (by decide +kernel)] <;> rfl
theorem no_BencodeScanner__take_mark {x0 x1 x2 x3 : V} : (fs_BencodeScanner x0 x1 x2 x3).lookup ("_take_mark" : Str) = none := by
  unfold fs_BencodeScanner
  rw [lk_miss (by decide +kernel), lk_miss (by decide +kernel), lk_miss (by decide +kernel), lk_miss (by decide +kernel)] <;> rfl
theorem no_BencodeScanner__begin_counted {x0 x1 x2 x3 : V} : (fs_BencodeScanner x0 x1 x2 x3).lookup ("_begin_counted" : Str) = none := by
  unfold fs_BencodeScanner
  rw [lk_miss (by decide +kernel), lk_miss (by decide +kernel), lk_miss (by decide +kernel), lk_miss (by decide +kernel)] <;> rfl
theorem no_BencodeScanner__grow {x0 x1 x2 x3 : V} : (fs_BencodeScanner x0 x1 x2 x3).lookup ("_grow" : Str) = none := by
  unfold fs_BencodeScanner
  rw [lk_miss (by decide +kernel), lk_miss (by decide +kernel), lk_miss (by decide +kernel), lk_miss (by decide +kernel)] <;> rfl
theorem no_BencodeScanner__close {x0 x1 x2 x3 : V} : (fs_BencodeScanner x0 x1 x2 x3).lookup ("_close" : Str) = none := by
  unfold fs_BencodeScanner
  rw [lk_miss (by decide +kernel), lk_miss (by decide +kernel), lk_miss (by decide +kernel), lk_miss (by decide +kernel)] <;> rfl
theorem few_BencodeScanner {x0 x1 x2 x3 : V} : (fs_BencodeScanner x0 x1 x2 x3).length < 1000 := by
  show 4 < 1000
  decide
def fs_Frame (x0 x1 x2 : V) : List (Str × V) := [("kind", x0), ("key", x1), ("inside", x2)]
theorem lk_Frame_kind {x0 x1 x2 : V} : (fs_Frame x0 x1 x2).lookup ("kind" : Str) = some x0 := by
  unfold fs_Frame
  rw [lk_hit]
theorem pt_Frame_kind {x0 x1 x2 y : V} : putF "kind" y (fs_Frame x0 x1 x2) = fs_Frame y x1 x2 := by
  unfold fs_Frame
  rw [pf_hit]
theorem in_Frame_kind {x0 : V} : putF "kind" x0 ([] : List (Str × V)) = ([("kind", x0)] : List (Str × V)) := by
  rw [pf_nil]
theorem lk_Frame_key {x0 x1 x2 : V} : (fs_Frame x0 x1 x2).lookup ("key" : Str) = some x1 := by
  unfold fs_Frame
  rw [lk_miss (by decide +kernel), lk_hit]
theorem pt_Frame_key {x0 x1 x2 y : V} : putF "key" y (fs_Frame x0 x1 x2) = fs_Frame x0 y x2 := by
  unfold fs_Frame
  rw [pf_miss (by decide +kernel), pf_hit]
theorem in_Frame_key {x0 x1 : V} : putF "key" x1 ([("kind", x0)] : List (Str × V)) = ([("kind", x0), ("key", x1)] : List (Str × V)) := by
  rw [pf_miss (by decide +kernel), pf_nil]
theorem lk_Frame_inside {x0 x1 x2 : V} : (fs_Frame x0 x1 x2).lookup ("inside" : Str) = some x2 := by
  unfold fs_Frame
  rw [lk_miss (by decide +kernel), lk_miss (by decide +kernel), lk_hit]
theorem pt_Frame_inside {x0 x1 x2 y : V} : putF "inside" y (fs_Frame x0 x1 x2) = fs_Frame x0 x1 y := by
  unfold fs_Frame
  rw [pf_miss (by decide +kernel), pf_miss (by decide +kernel), pf_hit]
theorem in_Frame_inside {x0 x1 x2 : V} : putF "inside" x2 ([("kind", x0), ("key", x1)] : List (Str × V)) = ([("kind", x0), ("key", x1), ("inside", x2)] : List (Str × V)) := by
  rw [pf_miss (by decide +kernel), pf_miss (by decide +kernel), pf_nil]
theorem no_Frame_put {x0 x1 x2 : V} : (fs_Frame x0 x1 x2).lookup ("put" : Str) = none := by
  unfold fs_Frame
  rw [lk_miss (by decide +kernel), lk_miss (by decide +kernel), lk_miss (by decide +kernel)] <;> rfl
theorem no_Frame_built {x0 x1 x2 : V} : (fs_Frame x0 x1 x2).lookup ("built" : Str) = none := by
  unfold fs_Frame
  rw [lk_miss (by decide +kernel), lk_miss (by decide +kernel), lk_miss (by decide +kernel)] <;> rfl
theorem few_Frame {x0 x1 x2 : V} : (fs_Frame x0 x1 x2).length < 1000 := by
  show 3 < 1000
  decide
def fs_Builder (x0 x1 x2 : V) : List (Str × V) := [("is_done", x0), ("value", x1), ("_frames", x2)]
theorem lk_Builder_is_done {x0 x1 x2 : V} : (fs_Builder x0 x1 x2).lookup ("is_done" : Str) = some x0 := by
  unfold fs_Builder
  rw [lk_hit]
theorem pt_Builder_is_done {x0 x1 x2 y : V} : putF "is_done" y (fs_Builder x0 x1 x2) = fs_Builder y x1 x2 := by
  unfold fs_Builder
  rw [pf_hit]
theorem in_Builder_is_done {x0 : V} : putF "is_done" x0 ([] : List (Str × V)) = ([("is_done", x0)] : List (Str × V)) := by
  rw [pf_nil]
theorem lk_Builder_value {x0 x1 x2 : V} : (fs_Builder x0 x1 x2).lookup ("value" : Str) = some x1 := by
  unfold fs_Builder
  rw [lk_miss (by decide +kernel), lk_hit]
theorem pt_Builder_value {x0 x1 x2 y : V} : putF "value" y (fs_Builder x0 x1 x2) = fs_Builder x0 y x2 := by
  unfold fs_Builder
  rw [pf_miss (by decide +kernel), pf_hit]
theorem in_Builder_value {x0 x1 : V} : putF "value" x1 ([("is_done", x0)] : List (Str × V)) = ([("is_done", x0), ("value", x1)] : List (Str × V)) := by
  rw [pf_miss (by decide +kernel), pf_nil]
theorem lk_Builder__frames {x0 x1 x2 : V} : (fs_Builder x0 x1 x2).lookup ("_frames" : Str) = some x2 := by
  unfold fs_Builder
  rw [lk_miss (by decide +kernel), lk_miss (by decide +kernel), lk_hit]
theorem pt_Builder__frames {x0 x1 x2 y : V} : putF "_frames" y (fs_Builder x0 x1 x2) = fs_Builder x0 x1 y := by
  unfold fs_Builder
  rw [pf_miss (by decide +kernel), pf_miss (by decide +kernel), pf_hit]
theorem in_Builder__frames {x0 x1 x2 : V} : putF "_frames" x2 ([("is_done", x0), ("value", x1)] : List (Str × V)) = ([("is_done", x0), ("value", x1), ("_frames", x2)] : List (Str × V)) := by
  rw [pf_miss (by decide +kernel), pf_miss (by decide +kernel), pf_nil]
theorem no_Builder_take {x0 x1 x2 : V} : (fs_Builder x0 x1 x2).lookup ("take" : Str) = none := by
  unfold fs_Builder
  rw [lk_miss (by decide +kernel), lk_miss (by decide +kernel), lk_miss (by decide +kernel)] <;> rfl
theorem no_Builder__put {x0 x1 x2 : V} : (fs_Builder x0 x1 x2).lookup ("_put" : Str) = none := by
  unfold fs_Builder
  rw [lk_miss (by decide +kernel), lk_miss (by decide +kernel), lk_miss (by decide +kernel)] <;> rfl
theorem few_Builder {x0 x1 x2 : V} : (fs_Builder x0 x1 x2).length < 1000 := by
  show 3 < 1000
  decide

abbrev s_Begun___init__ : Stmt := (inClass (top 44) 0)
theorem sc_Begun___init__ : FnScope ["self"] ["self"] (defScope s_Begun___init__) := ⟨rfl, rfl, rfl, by decide +kernel, rfl, by decide +kernel, by decide +kernel⟩
abbrev s_BencodeLoose___init__ : Stmt := (inClass (top 46) 0)
theorem sc_BencodeLoose___init__ : FnScope ["self"] ["self"] (defScope s_BencodeLoose___init__) := ⟨rfl, rfl, rfl, by decide +kernel, rfl, by decide +kernel, by decide +kernel⟩
abbrev s__law_cell : Stmt := (top 65)
theorem sc__law_cell : FnScope ["script", "k"] ["script", "k"] (defScope s__law_cell) := ⟨rfl, rfl, rfl, by decide +kernel, rfl, by decide +kernel, by decide +kernel⟩
abbrev s__law_numbers : Stmt := (top 66)
theorem sc__law_numbers : FnScope ["cell", "many", "rest", "size", "numbers", "k", "mixed"] ["cell", "many"] (defScope s__law_numbers) := ⟨rfl, rfl, rfl, by decide +kernel, rfl, by decide +kernel, by decide +kernel⟩
abbrev s__law_state : Stmt := (top 67)
theorem sc__law_state : FnScope ["script", "left", "numbers", "k", "parted"] ["script", "left"] (defScope s__law_state) := ⟨rfl, rfl, rfl, by decide +kernel, rfl, by decide +kernel, by decide +kernel⟩
abbrev s__law_next : Stmt := (top 68)
theorem sc__law_next : FnScope ["state", "many", "at"] ["state", "many"] (defScope s__law_next) := ⟨rfl, rfl, rfl, by decide +kernel, rfl, by decide +kernel, by decide +kernel⟩
abbrev s__law_many : Stmt := (top 69)
theorem sc__law_many : FnScope ["state", "most"] ["state", "most"] (defScope s__law_many) := ⟨rfl, rfl, rfl, by decide +kernel, rfl, by decide +kernel, by decide +kernel⟩
abbrev s__law_points : Stmt := (top 73)
theorem sc__law_points : FnScope ["state", "menu", "points", "k", "pick", "point"] ["state"] (defScope s__law_points) := ⟨rfl, rfl, rfl, by decide +kernel, rfl, by decide +kernel, by decide +kernel⟩
abbrev s__law_big : Stmt := (top 70)
theorem sc__law_big : FnScope ["state", "many", "cell"] ["state", "many"] (defScope s__law_big) := ⟨rfl, rfl, rfl, by decide +kernel, rfl, by decide +kernel, by decide +kernel⟩
abbrev s__law_normal : Stmt := (top 71)
theorem sc__law_normal : FnScope ["m", "e", "k"] ["m", "e"] (defScope s__law_normal) := ⟨rfl, rfl, rfl, by decide +kernel, rfl, by decide +kernel, by decide +kernel⟩
abbrev s__law_number : Stmt := (top 72)
theorem sc__law_number : FnScope ["state", "is_far", "pick", "sign", "m", "e", "edge", "power_v", "k"] ["state", "is_far"] (defScope s__law_number) := ⟨rfl, rfl, rfl, by decide +kernel, rfl, by decide +kernel, by decide +kernel⟩
abbrev s__law_octets : Stmt := (top 74)
theorem sc__law_octets : FnScope ["state", "many", "low", "span", "k"] ["state"] (defScope s__law_octets) := ⟨rfl, rfl, rfl, by decide +kernel, rfl, by decide +kernel, by decide +kernel⟩
abbrev s__law_leaf : Stmt := (top 75)
theorem sc__law_leaf : FnScope ["state", "kinds", "kind"] ["state", "kinds"] (defScope s__law_leaf) := ⟨rfl, rfl, rfl, by decide +kernel, rfl, by decide +kernel, by decide +kernel⟩
abbrev s__law_value : Stmt := (top 76)
theorem sc__law_value : FnScope ["state", "deep", "kinds", "has_maps", "pick", "many", "k", "entries", "key", "entry"] ["state", "deep", "kinds", "has_maps"] (defScope s__law_value) := ⟨rfl, rfl, rfl, by decide +kernel, rfl, by decide +kernel, by decide +kernel⟩
abbrev s__law_towered : Stmt := (top 77)
theorem sc__law_towered : FnScope ["state", "value", "has_maps", "k", "pick"] ["state", "value", "has_maps"] (defScope s__law_towered) := ⟨rfl, rfl, rfl, by decide +kernel, rfl, by decide +kernel, by decide +kernel⟩
abbrev s__law_same : Stmt := (top 81)
theorem sc__law_same : FnScope ["told", "due", "k"] ["told", "due"] (defScope s__law_same) := ⟨rfl, rfl, rfl, by decide +kernel, rfl, by decide +kernel, by decide +kernel⟩
abbrev s__law_mixed : Stmt := (top 78)
theorem sc__law_mixed : FnScope ["state", "entries", "found", "entry"] ["state", "entries"] (defScope s__law_mixed) := ⟨rfl, rfl, rfl, by decide +kernel, rfl, by decide +kernel, by decide +kernel⟩
abbrev s__law_events : Stmt := (top 84)
theorem sc__law_events : FnScope ["state", "value", "found", "item", "entry"] ["state", "value"] (defScope s__law_events) := ⟨rfl, rfl, rfl, by decide +kernel, rfl, by decide +kernel, by decide +kernel⟩
abbrev s__law_lacks : Stmt := (top 85)
theorem sc__law_lacks : FnScope ["value"] ["value"] (defScope s__law_lacks) := ⟨rfl, rfl, rfl, by decide +kernel, rfl, by decide +kernel, by decide +kernel⟩
abbrev s__law_kinds : Stmt := (top 86)
theorem sc__law_kinds : FnScope ["state", "odd"] ["state"] (defScope s__law_kinds) := ⟨rfl, rfl, rfl, by decide +kernel, rfl, by decide +kernel, by decide +kernel⟩
abbrev s_AlikeError___init__ : Stmt := (inClass (top 35) 0)
theorem sc_AlikeError___init__ : FnScope ["self", "what"] ["self", "what"] (defScope s_AlikeError___init__) := ⟨rfl, rfl, rfl, by decide +kernel, rfl, by decide +kernel, by decide +kernel⟩
abbrev s_power : Stmt := (top 12)
theorem sc_power : FnScope ["base", "many", "worth"] ["base", "many"] (defScope s_power) := ⟨rfl, rfl, rfl, by decide +kernel, rfl, by decide +kernel, by decide +kernel⟩
abbrev s_whole : Stmt := (top 13)
theorem sc_whole : FnScope ["m", "e", "most"] ["m", "e", "most"] (defScope s_whole) := ⟨rfl, rfl, rfl, by decide +kernel, rfl, by decide +kernel, by decide +kernel⟩
abbrev s_digits_of : Stmt := (top 14)
theorem sc_digits_of : FnScope ["n", "pieces", "piece"] ["n"] (defScope s_digits_of) := ⟨rfl, rfl, rfl, by decide +kernel, rfl, by decide +kernel, by decide +kernel⟩
abbrev s_signed_digits : Stmt := (top 15)
theorem sc_signed_digits : FnScope ["n", "sign"] ["n"] (defScope s_signed_digits) := ⟨rfl, rfl, rfl, by decide +kernel, rfl, by decide +kernel, by decide +kernel⟩
abbrev s_in_ascii : Stmt := (top 21)
theorem sc_in_ascii : FnScope ["string", "character"] ["string"] (defScope s_in_ascii) := ⟨rfl, rfl, rfl, by decide +kernel, rfl, by decide +kernel, by decide +kernel⟩
abbrev s_with_count : Stmt := (top 22)
theorem sc_with_count : FnScope ["octets"] ["octets"] (defScope s_with_count) := ⟨rfl, rfl, rfl, by decide +kernel, rfl, by decide +kernel, by decide +kernel⟩
abbrev s_leaf_octets : Stmt := (top 32)
theorem sc_leaf_octets : FnScope ["value", "integer"] ["value"] (defScope s_leaf_octets) := ⟨rfl, rfl, rfl, by decide +kernel, rfl, by decide +kernel, by decide +kernel⟩
abbrev s__encode_long : Stmt := (top 28)
theorem sc__encode_long : FnScope ["point", "many", "octets", "shift"] ["point"] (defScope s__encode_long) := ⟨rfl, rfl, rfl, by decide +kernel, rfl, by decide +kernel, by decide +kernel⟩
abbrev s_encode : Stmt := (top 27)
theorem sc_encode : FnScope ["points", "octets", "point"] ["points"] (defScope s_encode) := ⟨rfl, rfl, rfl, by decide +kernel, rfl, by decide +kernel, by decide +kernel⟩
abbrev s_key_octets : Stmt := (top 33)
theorem sc_key_octets : FnScope ["key"] ["key"] (defScope s_key_octets) := ⟨rfl, rfl, rfl, by decide +kernel, rfl, by decide +kernel, by decide +kernel⟩
abbrev s_is_lacking : Stmt := (top 31)
theorem sc_is_lacking : FnScope ["value"] ["value"] (defScope s_is_lacking) := ⟨rfl, rfl, rfl, by decide +kernel, rfl, by decide +kernel, by decide +kernel⟩
abbrev s_Begun__count : Stmt := (inClass (top 44) 2)
theorem sc_Begun__count : FnScope ["self", "value", "is_lacking"] ["self", "value", "is_lacking"] (defScope s_Begun__count) := ⟨rfl, rfl, rfl, by decide +kernel, rfl, by decide +kernel, by decide +kernel⟩
abbrev s_Begun_note : Stmt := (inClass (top 44) 1)
theorem sc_Begun_note : FnScope ["self", "event", "is_lacking"] ["self", "event", "is_lacking"] (defScope s_Begun_note) := ⟨rfl, rfl, rfl, by decide +kernel, rfl, by decide +kernel, by decide +kernel⟩
abbrev s_BencodeLoose_take : Stmt := (inClass (top 46) 1)
theorem sc_BencodeLoose_take : FnScope ["self", "event"] ["self", "event"] (defScope s_BencodeLoose_take) := ⟨rfl, rfl, rfl, by decide +kernel, rfl, by decide +kernel, by decide +kernel⟩
abbrev s__law_taken : Stmt := (top 87)
theorem sc__law_taken : FnScope ["writer", "event", "e"] ["writer", "event"] (defScope s__law_taken) := ⟨rfl, rfl, rfl, by decide +kernel, rfl, by decide +kernel, by decide +kernel⟩
abbrev s_Nest___init__ : Stmt := (inClass (top 53) 0)
theorem sc_Nest___init__ : FnScope ["self"] ["self"] (defScope s_Nest___init__) := ⟨rfl, rfl, rfl, by decide +kernel, rfl, by decide +kernel, by decide +kernel⟩
abbrev s_BencodeScanner___init__ : Stmt := (inClass (top 55) 0)
theorem sc_BencodeScanner___init__ : FnScope ["self"] ["self"] (defScope s_BencodeScanner___init__) := ⟨rfl, rfl, rfl, by decide +kernel, rfl, by decide +kernel, by decide +kernel⟩
abbrev s_is_digit : Stmt := (top 20)
theorem sc_is_digit : FnScope ["octet"] ["octet"] (defScope s_is_digit) := ⟨rfl, rfl, rfl, by decide +kernel, rfl, by decide +kernel, by decide +kernel⟩
abbrev s_Counted__take_in_count : Stmt := (inClass (top 23) 2)
theorem sc_Counted__take_in_count : FnScope ["self", "octet"] ["self", "octet"] (defScope s_Counted__take_in_count) := ⟨rfl, rfl, rfl, by decide +kernel, rfl, by decide +kernel, by decide +kernel⟩
abbrev s_Counted_take : Stmt := (inClass (top 23) 1)
theorem sc_Counted_take : FnScope ["self", "octet"] ["self", "octet"] (defScope s_Counted_take) := ⟨rfl, rfl, rfl, by decide +kernel, rfl, by decide +kernel, by decide +kernel⟩
abbrev s_normal : Stmt := (top 11)
theorem sc_normal : FnScope ["m", "e"] ["m", "e"] (defScope s_normal) := ⟨rfl, rfl, rfl, by decide +kernel, rfl, by decide +kernel, by decide +kernel⟩
abbrev s_Numeral_pair : Stmt := (inClass (top 48) 6)
theorem sc_Numeral_pair : FnScope ["self"] ["self"] (defScope s_Numeral_pair) := ⟨rfl, rfl, rfl, by decide +kernel, rfl, by decide +kernel, by decide +kernel⟩
abbrev s_Numeral_negate : Stmt := (inClass (top 48) 1)
theorem sc_Numeral_negate : FnScope ["self"] ["self"] (defScope s_Numeral_negate) := ⟨rfl, rfl, rfl, by decide +kernel, rfl, by decide +kernel, by decide +kernel⟩
abbrev s_BencodeNumber__take_minus : Stmt := (inClass (top 50) 2)
theorem sc_BencodeNumber__take_minus : FnScope ["self"] ["self"] (defScope s_BencodeNumber__take_minus) := ⟨rfl, rfl, rfl, by decide +kernel, rfl, by decide +kernel, by decide +kernel⟩
abbrev s_Numeral_add_digit : Stmt := (inClass (top 48) 3)
theorem sc_Numeral_add_digit : FnScope ["self", "digit"] ["self", "digit"] (defScope s_Numeral_add_digit) := ⟨rfl, rfl, rfl, by decide +kernel, rfl, by decide +kernel, by decide +kernel⟩
abbrev s_BencodeNumber__take_digit : Stmt := (inClass (top 50) 3)
theorem sc_BencodeNumber__take_digit : FnScope ["self", "digit"] ["self", "digit"] (defScope s_BencodeNumber__take_digit) := ⟨rfl, rfl, rfl, by decide +kernel, rfl, by decide +kernel, by decide +kernel⟩
abbrev s_BencodeNumber_take : Stmt := (inClass (top 50) 1)
theorem sc_BencodeNumber_take : FnScope ["self", "octet"] ["self", "octet"] (defScope s_BencodeNumber_take) := ⟨rfl, rfl, rfl, by decide +kernel, rfl, by decide +kernel, by decide +kernel⟩
abbrev s_Utf8_is_open : Stmt := (inClass (top 29) 1)
theorem sc_Utf8_is_open : FnScope ["self"] ["self"] (defScope s_Utf8_is_open) := ⟨rfl, rfl, rfl, by decide +kernel, rfl, by decide +kernel, by decide +kernel⟩
abbrev s_Utf8__begin : Stmt := (inClass (top 29) 3)
theorem sc_Utf8__begin : FnScope ["self", "octet", "first", "last", "many", "least", "most"] ["self", "octet"] (defScope s_Utf8__begin) := ⟨rfl, rfl, rfl, by decide +kernel, rfl, by decide +kernel, by decide +kernel⟩
abbrev s_Utf8__go_on : Stmt := (inClass (top 29) 4)
theorem sc_Utf8__go_on : FnScope ["self", "octet"] ["self", "octet"] (defScope s_Utf8__go_on) := ⟨rfl, rfl, rfl, by decide +kernel, rfl, by decide +kernel, by decide +kernel⟩
abbrev s_Utf8_take : Stmt := (inClass (top 29) 2)
theorem sc_Utf8_take : FnScope ["self", "octet"] ["self", "octet"] (defScope s_Utf8_take) := ⟨rfl, rfl, rfl, by decide +kernel, rfl, by decide +kernel, by decide +kernel⟩
abbrev s_BencodeKey_take : Stmt := (inClass (top 51) 1)
theorem sc_BencodeKey_take : FnScope ["self", "octet", "is_inside"] ["self", "octet"] (defScope s_BencodeKey_take) := ⟨rfl, rfl, rfl, by decide +kernel, rfl, by decide +kernel, by decide +kernel⟩
abbrev s_Counted_leaf : Stmt := (inClass (top 23) 3)
theorem sc_Counted_leaf : FnScope ["self"] ["self"] (defScope s_Counted_leaf) := ⟨rfl, rfl, rfl, by decide +kernel, rfl, by decide +kernel, by decide +kernel⟩
abbrev s_BencodeNumber_leaf : Stmt := (inClass (top 50) 4)
theorem sc_BencodeNumber_leaf : FnScope ["self", "m", "e"] ["self"] (defScope s_BencodeNumber_leaf) := ⟨rfl, rfl, rfl, by decide +kernel, rfl, by decide +kernel, by decide +kernel⟩
abbrev s_BencodeKey_leaf : Stmt := (inClass (top 51) 2)
theorem sc_BencodeKey_leaf : FnScope ["self"] ["self"] (defScope s_BencodeKey_leaf) := ⟨rfl, rfl, rfl, by decide +kernel, rfl, by decide +kernel, by decide +kernel⟩
abbrev s_Nest_note_key : Stmt := (inClass (top 53) 4)
theorem sc_Nest_note_key : FnScope ["self", "key", "keys"] ["self", "key"] (defScope s_Nest_note_key) := ⟨rfl, rfl, rfl, by decide +kernel, rfl, by decide +kernel, by decide +kernel⟩
abbrev s_Nest_inner : Stmt := (inClass (top 53) 1)
theorem sc_Nest_inner : FnScope ["self"] ["self"] (defScope s_Nest_inner) := ⟨rfl, rfl, rfl, by decide +kernel, rfl, by decide +kernel, by decide +kernel⟩
abbrev s_BencodeScanner__end_value : Stmt := (inClass (top 55) 5)
theorem sc_BencodeScanner__end_value : FnScope ["self", "kind"] ["self"] (defScope s_BencodeScanner__end_value) := ⟨rfl, rfl, rfl, by decide +kernel, rfl, by decide +kernel, by decide +kernel⟩
abbrev s_BencodeScanner__end_token : Stmt := (inClass (top 55) 4)
theorem sc_BencodeScanner__end_token : FnScope ["self", "events", "leaf"] ["self", "events"] (defScope s_BencodeScanner__end_token) := ⟨rfl, rfl, rfl, by decide +kernel, rfl, by decide +kernel, by decide +kernel⟩
abbrev s_Counted___init__ : Stmt := (inClass (top 23) 0)
theorem sc_Counted___init__ : FnScope ["self"] ["self"] (defScope s_Counted___init__) := ⟨rfl, rfl, rfl, by decide +kernel, rfl, by decide +kernel, by decide +kernel⟩
abbrev s_Numeral___init__ : Stmt := (inClass (top 48) 0)
theorem sc_Numeral___init__ : FnScope ["self"] ["self"] (defScope s_Numeral___init__) := ⟨rfl, rfl, rfl, by decide +kernel, rfl, by decide +kernel, by decide +kernel⟩
abbrev s_BencodeNumber___init__ : Stmt := (inClass (top 50) 0)
theorem sc_BencodeNumber___init__ : FnScope ["self"] ["self"] (defScope s_BencodeNumber___init__) := ⟨rfl, rfl, rfl, by decide +kernel, rfl, by decide +kernel, by decide +kernel⟩
abbrev s_Utf8___init__ : Stmt := (inClass (top 29) 0)
theorem sc_Utf8___init__ : FnScope ["self"] ["self"] (defScope s_Utf8___init__) := ⟨rfl, rfl, rfl, by decide +kernel, rfl, by decide +kernel, by decide +kernel⟩
abbrev s_BencodeKey___init__ : Stmt := (inClass (top 51) 0)
theorem sc_BencodeKey___init__ : FnScope ["self"] ["self"] (defScope s_BencodeKey___init__) := ⟨rfl, rfl, rfl, by decide +kernel, rfl, by decide +kernel, by decide +kernel⟩
abbrev s_BencodeScanner__begin_counted : Stmt := (inClass (top 55) 7)
theorem sc_BencodeScanner__begin_counted : FnScope ["self", "token", "octet"] ["self", "token", "octet"] (defScope s_BencodeScanner__begin_counted) := ⟨rfl, rfl, rfl, by decide +kernel, rfl, by decide +kernel, by decide +kernel⟩
abbrev s_Nest_grow : Stmt := (inClass (top 53) 2)
theorem sc_Nest_grow : FnScope ["self", "kind"] ["self", "kind"] (defScope s_Nest_grow) := ⟨rfl, rfl, rfl, by decide +kernel, rfl, by decide +kernel, by decide +kernel⟩
abbrev s_BencodeScanner__grow : Stmt := (inClass (top 55) 8)
theorem sc_BencodeScanner__grow : FnScope ["self", "kind", "events"] ["self", "kind", "events"] (defScope s_BencodeScanner__grow) := ⟨rfl, rfl, rfl, by decide +kernel, rfl, by decide +kernel, by decide +kernel⟩
abbrev s_Nest_shrink : Stmt := (inClass (top 53) 3)
theorem sc_Nest_shrink : FnScope ["self"] ["self"] (defScope s_Nest_shrink) := ⟨rfl, rfl, rfl, by decide +kernel, rfl, by decide +kernel, by decide +kernel⟩
abbrev s_BencodeScanner__close : Stmt := (inClass (top 55) 9)
theorem sc_BencodeScanner__close : FnScope ["self", "events"] ["self", "events"] (defScope s_BencodeScanner__close) := ⟨rfl, rfl, rfl, by decide +kernel, rfl, by decide +kernel, by decide +kernel⟩
abbrev s_BencodeScanner__take_mark : Stmt := (inClass (top 55) 6)
theorem sc_BencodeScanner__take_mark : FnScope ["self", "octet", "events"] ["self", "octet", "events"] (defScope s_BencodeScanner__take_mark) := ⟨rfl, rfl, rfl, by decide +kernel, rfl, by decide +kernel, by decide +kernel⟩
abbrev s_BencodeScanner__take : Stmt := (inClass (top 55) 3)
theorem sc_BencodeScanner__take : FnScope ["self", "octet", "events"] ["self", "octet", "events"] (defScope s_BencodeScanner__take) := ⟨rfl, rfl, rfl, by decide +kernel, rfl, by decide +kernel, by decide +kernel⟩
abbrev s_BencodeScanner_step : Stmt := (inClass (top 55) 1)
theorem sc_BencodeScanner_step : FnScope ["self", "octet", "events"] ["self", "octet"] (defScope s_BencodeScanner_step) := ⟨rfl, rfl, rfl, by decide +kernel, rfl, by decide +kernel, by decide +kernel⟩
abbrev s_BencodeScanner_end : Stmt := (inClass (top 55) 2)
theorem sc_BencodeScanner_end : FnScope ["self"] ["self"] (defScope s_BencodeScanner_end) := ⟨rfl, rfl, rfl, by decide +kernel, rfl, by decide +kernel, by decide +kernel⟩
abbrev s_Builder___init__ : Stmt := (inClass (top 58) 0)
theorem sc_Builder___init__ : FnScope ["self"] ["self"] (defScope s_Builder___init__) := ⟨rfl, rfl, rfl, by decide +kernel, rfl, by decide +kernel, by decide +kernel⟩
abbrev s_Frame___init__ : Stmt := (inClass (top 57) 0)
theorem sc_Frame___init__ : FnScope ["self", "kind"] ["self", "kind"] (defScope s_Frame___init__) := ⟨rfl, rfl, rfl, by decide +kernel, rfl, by decide +kernel, by decide +kernel⟩
abbrev s_list_of : Stmt := (top 41)
theorem sc_list_of : FnScope ["items"] ["items"] (defScope s_list_of) := ⟨rfl, rfl, rfl, by decide +kernel, rfl, by decide +kernel, by decide +kernel⟩
abbrev s_map_of : Stmt := (top 42)
theorem sc_map_of : FnScope ["entries", "table", "points", "value", "key"] ["entries"] (defScope s_map_of) := ⟨rfl, rfl, rfl, by decide +kernel, rfl, by decide +kernel, by decide +kernel⟩
abbrev s_Frame_built : Stmt := (inClass (top 57) 2)
theorem sc_Frame_built : FnScope ["self"] ["self"] (defScope s_Frame_built) := ⟨rfl, rfl, rfl, by decide +kernel, rfl, by decide +kernel, by decide +kernel⟩
abbrev s_Frame_put : Stmt := (inClass (top 57) 1)
theorem sc_Frame_put : FnScope ["self", "value"] ["self", "value"] (defScope s_Frame_put) := ⟨rfl, rfl, rfl, by decide +kernel, rfl, by decide +kernel, by decide +kernel⟩
abbrev s_Builder__put : Stmt := (inClass (top 58) 2)
theorem sc_Builder__put : FnScope ["self", "value", "frame"] ["self", "value"] (defScope s_Builder__put) := ⟨rfl, rfl, rfl, by decide +kernel, rfl, by decide +kernel, by decide +kernel⟩
abbrev s_Builder_take : Stmt := (inClass (top 58) 1)
theorem sc_Builder_take : FnScope ["self", "event", "frame"] ["self", "event"] (defScope s_Builder_take) := ⟨rfl, rfl, rfl, by decide +kernel, rfl, by decide +kernel, by decide +kernel⟩
abbrev s__take_all : Stmt := (top 61)
theorem sc__take_all : FnScope ["builder", "events", "event"] ["builder", "events"] (defScope s__take_all) := ⟨rfl, rfl, rfl, by decide +kernel, rfl, by decide +kernel, by decide +kernel⟩
abbrev s_value_of_text : Stmt := (top 60)
theorem sc_value_of_text : FnScope ["scanner", "octets", "builder", "octet"] ["scanner", "octets"] (defScope s_value_of_text) := ⟨rfl, rfl, rfl, by decide +kernel, rfl, by decide +kernel, by decide +kernel⟩
abbrev s_read_bencode : Stmt := (top 63)
theorem sc_read_bencode : FnScope ["octets"] ["octets"] (defScope s_read_bencode) := ⟨rfl, rfl, rfl, by decide +kernel, rfl, by decide +kernel, by decide +kernel⟩
abbrev s__law_read : Stmt := (top 88)
theorem sc__law_read : FnScope ["octets"] ["octets"] (defScope s__law_read) := ⟨rfl, rfl, rfl, by decide +kernel, rfl, by decide +kernel, by decide +kernel⟩
abbrev s__law_utf8 : Stmt := (top 80)
theorem sc__law_utf8 : FnScope ["points", "octets", "point"] ["points"] (defScope s__law_utf8) := ⟨rfl, rfl, rfl, by decide +kernel, rfl, by decide +kernel, by decide +kernel⟩
abbrev s__law_ascii : Stmt := (top 79)
theorem sc__law_ascii : FnScope ["text", "char"] ["text"] (defScope s__law_ascii) := ⟨rfl, rfl, rfl, by decide +kernel, rfl, by decide +kernel, by decide +kernel⟩
abbrev s__law_string : Stmt := (top 82)
theorem sc__law_string : FnScope ["octets"] ["octets"] (defScope s__law_string) := ⟨rfl, rfl, rfl, by decide +kernel, rfl, by decide +kernel, by decide +kernel⟩
abbrev s__law_leaf_written : Stmt := (top 83)
theorem sc__law_leaf_written : FnScope ["value"] ["value"] (defScope s__law_leaf_written) := ⟨rfl, rfl, rfl, by decide +kernel, rfl, by decide +kernel, by decide +kernel⟩
abbrev s__law_due : Stmt := (top 89)
theorem sc__law_due : FnScope ["event"] ["event"] (defScope s__law_due) := ⟨rfl, rfl, rfl, by decide +kernel, rfl, by decide +kernel, by decide +kernel⟩
abbrev s_law : Stmt := (top 90)
theorem sc_law : FnScope ["script", "state", "kinds", "value", "events", "writer", "other", "octets", "rows", "kept", "begun", "k", "event", "told", "due", "half"] ["script"] (defScope s_law) := ⟨rfl, rfl, rfl, by decide +kernel, rfl, by decide +kernel, by decide +kernel⟩
def d_Begun___init__ : DefM := { ad := meAd "Begun" "__init__", nm := "__init__", ql := "Begun.__init__", pa := defArgs s_Begun___init__, bo := defBody s_Begun___init__, sc := defScope s_Begun___init__ }
def d_BencodeLoose___init__ : DefM := { ad := meAd "BencodeLoose" "__init__", nm := "__init__", ql := "BencodeLoose.__init__", pa := defArgs s_BencodeLoose___init__, bo := defBody s_BencodeLoose___init__, sc := defScope s_BencodeLoose___init__ }
def d__law_cell : DefM := { ad := glAd "_law_cell", nm := "_law_cell", ql := "_law_cell", pa := defArgs s__law_cell, bo := defBody s__law_cell, sc := defScope s__law_cell }
def d__law_numbers : DefM := { ad := glAd "_law_numbers", nm := "_law_numbers", ql := "_law_numbers", pa := defArgs s__law_numbers, bo := defBody s__law_numbers, sc := defScope s__law_numbers }
def d__law_state : DefM := { ad := glAd "_law_state", nm := "_law_state", ql := "_law_state", pa := defArgs s__law_state, bo := defBody s__law_state, sc := defScope s__law_state }
def d__law_next : DefM := { ad := glAd "_law_next", nm := "_law_next", ql := "_law_next", pa := defArgs s__law_next, bo := defBody s__law_next, sc := defScope s__law_next }
def d__law_many : DefM := { ad := glAd "_law_many", nm := "_law_many", ql := "_law_many", pa := defArgs s__law_many, bo := defBody s__law_many, sc := defScope s__law_many }
def d__law_points : DefM := { ad := glAd "_law_points", nm := "_law_points", ql := "_law_points", pa := defArgs s__law_points, bo := defBody s__law_points, sc := defScope s__law_points }
def d__law_big : DefM := { ad := glAd "_law_big", nm := "_law_big", ql := "_law_big", pa := defArgs s__law_big, bo := defBody s__law_big, sc := defScope s__law_big }
def d__law_normal : DefM := { ad := glAd "_law_normal", nm := "_law_normal", ql := "_law_normal", pa := defArgs s__law_normal, bo := defBody s__law_normal, sc := defScope s__law_normal }
def d__law_number : DefM := { ad := glAd "_law_number", nm := "_law_number", ql := "_law_number", pa := defArgs s__law_number, bo := defBody s__law_number, sc := defScope s__law_number }
def d__law_octets : DefM := { ad := glAd "_law_octets", nm := "_law_octets", ql := "_law_octets", pa := defArgs s__law_octets, bo := defBody s__law_octets, sc := defScope s__law_octets }
def d__law_leaf : DefM := { ad := glAd "_law_leaf", nm := "_law_leaf", ql := "_law_leaf", pa := defArgs s__law_leaf, bo := defBody s__law_leaf, sc := defScope s__law_leaf }
def d__law_value : DefM := { ad := glAd "_law_value", nm := "_law_value", ql := "_law_value", pa := defArgs s__law_value, bo := defBody s__law_value, sc := defScope s__law_value }
def d__law_towered : DefM := { ad := glAd "_law_towered", nm := "_law_towered", ql := "_law_towered", pa := defArgs s__law_towered, bo := defBody s__law_towered, sc := defScope s__law_towered }
def d__law_same : DefM := { ad := glAd "_law_same", nm := "_law_same", ql := "_law_same", pa := defArgs s__law_same, bo := defBody s__law_same, sc := defScope s__law_same }
def d__law_mixed : DefM := { ad := glAd "_law_mixed", nm := "_law_mixed", ql := "_law_mixed", pa := defArgs s__law_mixed, bo := defBody s__law_mixed, sc := defScope s__law_mixed }
def d__law_events : DefM := { ad := glAd "_law_events", nm := "_law_events", ql := "_law_events", pa := defArgs s__law_events, bo := defBody s__law_events, sc := defScope s__law_events }
def d__law_lacks : DefM := { ad := glAd "_law_lacks", nm := "_law_lacks", ql := "_law_lacks", pa := defArgs s__law_lacks, bo := defBody s__law_lacks, sc := defScope s__law_lacks }
def d__law_kinds : DefM := { ad := glAd "_law_kinds", nm := "_law_kinds", ql := "_law_kinds", pa := defArgs s__law_kinds, bo := defBody s__law_kinds, sc := defScope s__law_kinds }
def d_AlikeError___init__ : DefM := { ad := meAd "AlikeError" "__init__", nm := "__init__", ql := "AlikeError.__init__", pa := defArgs s_AlikeError___init__, bo := defBody s_AlikeError___init__, sc := defScope s_AlikeError___init__, df := [.non] }
def d_power : DefM := { ad := glAd "power", nm := "power", ql := "power", pa := defArgs s_power, bo := defBody s_power, sc := defScope s_power }
def d_whole : DefM := { ad := glAd "whole", nm := "whole", ql := "whole", pa := defArgs s_whole, bo := defBody s_whole, sc := defScope s_whole }
def d_digits_of : DefM := { ad := glAd "digits_of", nm := "digits_of", ql := "digits_of", pa := defArgs s_digits_of, bo := defBody s_digits_of, sc := defScope s_digits_of }
def d_signed_digits : DefM := { ad := glAd "signed_digits", nm := "signed_digits", ql := "signed_digits", pa := defArgs s_signed_digits, bo := defBody s_signed_digits, sc := defScope s_signed_digits }
def d_in_ascii : DefM := { ad := glAd "in_ascii", nm := "in_ascii", ql := "in_ascii", pa := defArgs s_in_ascii, bo := defBody s_in_ascii, sc := defScope s_in_ascii }
def d_with_count : DefM := { ad := glAd "with_count", nm := "with_count", ql := "with_count", pa := defArgs s_with_count, bo := defBody s_with_count, sc := defScope s_with_count }
def d_leaf_octets : DefM := { ad := glAd "leaf_octets", nm := "leaf_octets", ql := "leaf_octets", pa := defArgs s_leaf_octets, bo := defBody s_leaf_octets, sc := defScope s_leaf_octets }
def d__encode_long : DefM := { ad := glAd "_encode_long", nm := "_encode_long", ql := "_encode_long", pa := defArgs s__encode_long, bo := defBody s__encode_long, sc := defScope s__encode_long }
def d_encode : DefM := { ad := glAd "encode", nm := "encode", ql := "encode", pa := defArgs s_encode, bo := defBody s_encode, sc := defScope s_encode }
def d_key_octets : DefM := { ad := glAd "key_octets", nm := "key_octets", ql := "key_octets", pa := defArgs s_key_octets, bo := defBody s_key_octets, sc := defScope s_key_octets }
def d_is_lacking : DefM := { ad := glAd "is_lacking", nm := "is_lacking", ql := "is_lacking", pa := defArgs s_is_lacking, bo := defBody s_is_lacking, sc := defScope s_is_lacking }
def d_Begun__count : DefM := { ad := meAd "Begun" "_count", nm := "_count", ql := "Begun._count", pa := defArgs s_Begun__count, bo := defBody s_Begun__count, sc := defScope s_Begun__count }
def d_Begun_note : DefM := { ad := meAd "Begun" "note", nm := "note", ql := "Begun.note", pa := defArgs s_Begun_note, bo := defBody s_Begun_note, sc := defScope s_Begun_note }
def d_BencodeLoose_take : DefM := { ad := meAd "BencodeLoose" "take", nm := "take", ql := "BencodeLoose.take", pa := defArgs s_BencodeLoose_take, bo := defBody s_BencodeLoose_take, sc := defScope s_BencodeLoose_take }
def d__law_taken : DefM := { ad := glAd "_law_taken", nm := "_law_taken", ql := "_law_taken", pa := defArgs s__law_taken, bo := defBody s__law_taken, sc := defScope s__law_taken }
def d_Nest___init__ : DefM := { ad := meAd "Nest" "__init__", nm := "__init__", ql := "Nest.__init__", pa := defArgs s_Nest___init__, bo := defBody s_Nest___init__, sc := defScope s_Nest___init__ }
def d_BencodeScanner___init__ : DefM := { ad := meAd "BencodeScanner" "__init__", nm := "__init__", ql := "BencodeScanner.__init__", pa := defArgs s_BencodeScanner___init__, bo := defBody s_BencodeScanner___init__, sc := defScope s_BencodeScanner___init__ }
def d_is_digit : DefM := { ad := glAd "is_digit", nm := "is_digit", ql := "is_digit", pa := defArgs s_is_digit, bo := defBody s_is_digit, sc := defScope s_is_digit }
def d_Counted__take_in_count : DefM := { ad := meAd "Counted" "_take_in_count", nm := "_take_in_count", ql := "Counted._take_in_count", pa := defArgs s_Counted__take_in_count, bo := defBody s_Counted__take_in_count, sc := defScope s_Counted__take_in_count }
def d_Counted_take : DefM := { ad := meAd "Counted" "take", nm := "take", ql := "Counted.take", pa := defArgs s_Counted_take, bo := defBody s_Counted_take, sc := defScope s_Counted_take }
def d_normal : DefM := { ad := glAd "normal", nm := "normal", ql := "normal", pa := defArgs s_normal, bo := defBody s_normal, sc := defScope s_normal }
def d_Numeral_pair : DefM := { ad := meAd "Numeral" "pair", nm := "pair", ql := "Numeral.pair", pa := defArgs s_Numeral_pair, bo := defBody s_Numeral_pair, sc := defScope s_Numeral_pair }
def d_Numeral_negate : DefM := { ad := meAd "Numeral" "negate", nm := "negate", ql := "Numeral.negate", pa := defArgs s_Numeral_negate, bo := defBody s_Numeral_negate, sc := defScope s_Numeral_negate }
def d_BencodeNumber__take_minus : DefM := { ad := meAd "BencodeNumber" "_take_minus", nm := "_take_minus", ql := "BencodeNumber._take_minus", pa := defArgs s_BencodeNumber__take_minus, bo := defBody s_BencodeNumber__take_minus, sc := defScope s_BencodeNumber__take_minus }
def d_Numeral_add_digit : DefM := { ad := meAd "Numeral" "add_digit", nm := "add_digit", ql := "Numeral.add_digit", pa := defArgs s_Numeral_add_digit, bo := defBody s_Numeral_add_digit, sc := defScope s_Numeral_add_digit }
def d_BencodeNumber__take_digit : DefM := { ad := meAd "BencodeNumber" "_take_digit", nm := "_take_digit", ql := "BencodeNumber._take_digit", pa := defArgs s_BencodeNumber__take_digit, bo := defBody s_BencodeNumber__take_digit, sc := defScope s_BencodeNumber__take_digit }
def d_BencodeNumber_take : DefM := { ad := meAd "BencodeNumber" "take", nm := "take", ql := "BencodeNumber.take", pa := defArgs s_BencodeNumber_take, bo := defBody s_BencodeNumber_take, sc := defScope s_BencodeNumber_take }
def d_Utf8_is_open : DefM := { ad := prAd "Utf8" "is_open", nm := "is_open", ql := "Utf8.is_open", pa := defArgs s_Utf8_is_open, bo := defBody s_Utf8_is_open, sc := defScope s_Utf8_is_open }
def d_Utf8__begin : DefM := { ad := meAd "Utf8" "_begin", nm := "_begin", ql := "Utf8._begin", pa := defArgs s_Utf8__begin, bo := defBody s_Utf8__begin, sc := defScope s_Utf8__begin }
def d_Utf8__go_on : DefM := { ad := meAd "Utf8" "_go_on", nm := "_go_on", ql := "Utf8._go_on", pa := defArgs s_Utf8__go_on, bo := defBody s_Utf8__go_on, sc := defScope s_Utf8__go_on }
def d_Utf8_take : DefM := { ad := meAd "Utf8" "take", nm := "take", ql := "Utf8.take", pa := defArgs s_Utf8_take, bo := defBody s_Utf8_take, sc := defScope s_Utf8_take }
def d_BencodeKey_take : DefM := { ad := meAd "BencodeKey" "take", nm := "take", ql := "BencodeKey.take", pa := defArgs s_BencodeKey_take, bo := defBody s_BencodeKey_take, sc := defScope s_BencodeKey_take }
def d_Counted_leaf : DefM := { ad := meAd "Counted" "leaf", nm := "leaf", ql := "Counted.leaf", pa := defArgs s_Counted_leaf, bo := defBody s_Counted_leaf, sc := defScope s_Counted_leaf }
def d_BencodeNumber_leaf : DefM := { ad := meAd "BencodeNumber" "leaf", nm := "leaf", ql := "BencodeNumber.leaf", pa := defArgs s_BencodeNumber_leaf, bo := defBody s_BencodeNumber_leaf, sc := defScope s_BencodeNumber_leaf }
def d_BencodeKey_leaf : DefM := { ad := meAd "BencodeKey" "leaf", nm := "leaf", ql := "BencodeKey.leaf", pa := defArgs s_BencodeKey_leaf, bo := defBody s_BencodeKey_leaf, sc := defScope s_BencodeKey_leaf }
def d_Nest_note_key : DefM := { ad := meAd "Nest" "note_key", nm := "note_key", ql := "Nest.note_key", pa := defArgs s_Nest_note_key, bo := defBody s_Nest_note_key, sc := defScope s_Nest_note_key }
def d_Nest_inner : DefM := { ad := meAd "Nest" "inner", nm := "inner", ql := "Nest.inner", pa := defArgs s_Nest_inner, bo := defBody s_Nest_inner, sc := defScope s_Nest_inner }
def d_BencodeScanner__end_value : DefM := { ad := meAd "BencodeScanner" "_end_value", nm := "_end_value", ql := "BencodeScanner._end_value", pa := defArgs s_BencodeScanner__end_value, bo := defBody s_BencodeScanner__end_value, sc := defScope s_BencodeScanner__end_value }
def d_BencodeScanner__end_token : DefM := { ad := meAd "BencodeScanner" "_end_token", nm := "_end_token", ql := "BencodeScanner._end_token", pa := defArgs s_BencodeScanner__end_token, bo := defBody s_BencodeScanner__end_token, sc := defScope s_BencodeScanner__end_token }
def d_Counted___init__ : DefM := { ad := meAd "Counted" "__init__", nm := "__init__", ql := "Counted.__init__", pa := defArgs s_Counted___init__, bo := defBody s_Counted___init__, sc := defScope s_Counted___init__ }
def d_Numeral___init__ : DefM := { ad := meAd "Numeral" "__init__", nm := "__init__", ql := "Numeral.__init__", pa := defArgs s_Numeral___init__, bo := defBody s_Numeral___init__, sc := defScope s_Numeral___init__ }
def d_BencodeNumber___init__ : DefM := { ad := meAd "BencodeNumber" "__init__", nm := "__init__", ql := "BencodeNumber.__init__", pa := defArgs s_BencodeNumber___init__, bo := defBody s_BencodeNumber___init__, sc := defScope s_BencodeNumber___init__ }
def d_Utf8___init__ : DefM := { ad := meAd "Utf8" "__init__", nm := "__init__", ql := "Utf8.__init__", pa := defArgs s_Utf8___init__, bo := defBody s_Utf8___init__, sc := defScope s_Utf8___init__ }
def d_BencodeKey___init__ : DefM := { ad := meAd "BencodeKey" "__init__", nm := "__init__", ql := "BencodeKey.__init__", pa := defArgs s_BencodeKey___init__, bo := defBody s_BencodeKey___init__, sc := defScope s_BencodeKey___init__ }
def d_BencodeScanner__begin_counted : DefM := { ad := meAd "BencodeScanner" "_begin_counted", nm := "_begin_counted", ql := "BencodeScanner._begin_counted", pa := defArgs s_BencodeScanner__begin_counted, bo := defBody s_BencodeScanner__begin_counted, sc := defScope s_BencodeScanner__begin_counted }
def d_Nest_grow : DefM := { ad := meAd "Nest" "grow", nm := "grow", ql := "Nest.grow", pa := defArgs s_Nest_grow, bo := defBody s_Nest_grow, sc := defScope s_Nest_grow }
def d_BencodeScanner__grow : DefM := { ad := meAd "BencodeScanner" "_grow", nm := "_grow", ql := "BencodeScanner._grow", pa := defArgs s_BencodeScanner__grow, bo := defBody s_BencodeScanner__grow, sc := defScope s_BencodeScanner__grow }
def d_Nest_shrink : DefM := { ad := meAd "Nest" "shrink", nm := "shrink", ql := "Nest.shrink", pa := defArgs s_Nest_shrink, bo := defBody s_Nest_shrink, sc := defScope s_Nest_shrink }
def d_BencodeScanner__close : DefM := { ad := meAd "BencodeScanner" "_close", nm := "_close", ql := "BencodeScanner._close", pa := defArgs s_BencodeScanner__close, bo := defBody s_BencodeScanner__close, sc := defScope s_BencodeScanner__close }
def d_BencodeScanner__take_mark : DefM := { ad := meAd "BencodeScanner" "_take_mark", nm := "_take_mark", ql := "BencodeScanner._take_mark", pa := defArgs s_BencodeScanner__take_mark, bo := defBody s_BencodeScanner__take_mark, sc := defScope s_BencodeScanner__take_mark }
def d_BencodeScanner__take : DefM := { ad := meAd "BencodeScanner" "_take", nm := "_take", ql := "BencodeScanner._take", pa := defArgs s_BencodeScanner__take, bo := defBody s_BencodeScanner__take, sc := defScope s_BencodeScanner__take }
def d_BencodeScanner_step : DefM := { ad := meAd "BencodeScanner" "step", nm := "step", ql := "BencodeScanner.step", pa := defArgs s_BencodeScanner_step, bo := defBody s_BencodeScanner_step, sc := defScope s_BencodeScanner_step }
def d_BencodeScanner_end : DefM := { ad := meAd "BencodeScanner" "end", nm := "end", ql := "BencodeScanner.end", pa := defArgs s_BencodeScanner_end, bo := defBody s_BencodeScanner_end, sc := defScope s_BencodeScanner_end }
def d_Builder___init__ : DefM := { ad := meAd "Builder" "__init__", nm := "__init__", ql := "Builder.__init__", pa := defArgs s_Builder___init__, bo := defBody s_Builder___init__, sc := defScope s_Builder___init__ }
def d_Frame___init__ : DefM := { ad := meAd "Frame" "__init__", nm := "__init__", ql := "Frame.__init__", pa := defArgs s_Frame___init__, bo := defBody s_Frame___init__, sc := defScope s_Frame___init__ }
def d_list_of : DefM := { ad := glAd "list_of", nm := "list_of", ql := "list_of", pa := defArgs s_list_of, bo := defBody s_list_of, sc := defScope s_list_of }
def d_map_of : DefM := { ad := glAd "map_of", nm := "map_of", ql := "map_of", pa := defArgs s_map_of, bo := defBody s_map_of, sc := defScope s_map_of }
def d_Frame_built : DefM := { ad := meAd "Frame" "built", nm := "built", ql := "Frame.built", pa := defArgs s_Frame_built, bo := defBody s_Frame_built, sc := defScope s_Frame_built }
def d_Frame_put : DefM := { ad := meAd "Frame" "put", nm := "put", ql := "Frame.put", pa := defArgs s_Frame_put, bo := defBody s_Frame_put, sc := defScope s_Frame_put }
def d_Builder__put : DefM := { ad := meAd "Builder" "_put", nm := "_put", ql := "Builder._put", pa := defArgs s_Builder__put, bo := defBody s_Builder__put, sc := defScope s_Builder__put }
def d_Builder_take : DefM := { ad := meAd "Builder" "take", nm := "take", ql := "Builder.take", pa := defArgs s_Builder_take, bo := defBody s_Builder_take, sc := defScope s_Builder_take }
def d__take_all : DefM := { ad := glAd "_take_all", nm := "_take_all", ql := "_take_all", pa := defArgs s__take_all, bo := defBody s__take_all, sc := defScope s__take_all }
def d_value_of_text : DefM := { ad := glAd "value_of_text", nm := "value_of_text", ql := "value_of_text", pa := defArgs s_value_of_text, bo := defBody s_value_of_text, sc := defScope s_value_of_text }
def d_read_bencode : DefM := { ad := glAd "read_bencode", nm := "read_bencode", ql := "read_bencode", pa := defArgs s_read_bencode, bo := defBody s_read_bencode, sc := defScope s_read_bencode }
def d__law_read : DefM := { ad := glAd "_law_read", nm := "_law_read", ql := "_law_read", pa := defArgs s__law_read, bo := defBody s__law_read, sc := defScope s__law_read }
def d__law_utf8 : DefM := { ad := glAd "_law_utf8", nm := "_law_utf8", ql := "_law_utf8", pa := defArgs s__law_utf8, bo := defBody s__law_utf8, sc := defScope s__law_utf8 }
def d__law_ascii : DefM := { ad := glAd "_law_ascii", nm := "_law_ascii", ql := "_law_ascii", pa := defArgs s__law_ascii, bo := defBody s__law_ascii, sc := defScope s__law_ascii }
def d__law_string : DefM := { ad := glAd "_law_string", nm := "_law_string", ql := "_law_string", pa := defArgs s__law_string, bo := defBody s__law_string, sc := defScope s__law_string }
def d__law_leaf_written : DefM := { ad := glAd "_law_leaf_written", nm := "_law_leaf_written", ql := "_law_leaf_written", pa := defArgs s__law_leaf_written, bo := defBody s__law_leaf_written, sc := defScope s__law_leaf_written }
def d__law_due : DefM := { ad := glAd "_law_due", nm := "_law_due", ql := "_law_due", pa := defArgs s__law_due, bo := defBody s__law_due, sc := defScope s__law_due }
def d_law : DefM := { ad := glAd "law", nm := "law", ql := "law", pa := defArgs s_law, bo := defBody s_law, sc := defScope s_law }
def fn : List DefM := [d_Begun___init__, d_BencodeLoose___init__, d__law_cell, d__law_numbers, d__law_state, d__law_next, d__law_many, d__law_points, d__law_big, d__law_normal, d__law_number, d__law_octets, d__law_leaf, d__law_value, d__law_towered, d__law_same, d__law_mixed, d__law_events, d__law_lacks, d__law_kinds, d_AlikeError___init__, d_power, d_whole, d_digits_of, d_signed_digits, d_in_ascii, d_with_count, d_leaf_octets, d__encode_long, d_encode, d_key_octets, d_is_lacking, d_Begun__count, d_Begun_note, d_BencodeLoose_take, d__law_taken, d_Nest___init__, d_BencodeScanner___init__, d_is_digit, d_Counted__take_in_count, d_Counted_take, d_normal, d_Numeral_pair, d_Numeral_negate, d_BencodeNumber__take_minus, d_Numeral_add_digit, d_BencodeNumber__take_digit, d_BencodeNumber_take, d_Utf8_is_open, d_Utf8__begin, d_Utf8__go_on, d_Utf8_take, d_BencodeKey_take, d_Counted_leaf, d_BencodeNumber_leaf, d_BencodeKey_leaf, d_Nest_note_key, d_Nest_inner, d_BencodeScanner__end_value, d_BencodeScanner__end_token, d_Counted___init__, d_Numeral___init__, d_BencodeNumber___init__, d_Utf8___init__, d_BencodeKey___init__, d_BencodeScanner__begin_counted, d_Nest_grow, d_BencodeScanner__grow, d_Nest_shrink, d_BencodeScanner__close, d_BencodeScanner__take_mark, d_BencodeScanner__take, d_BencodeScanner_step, d_BencodeScanner_end, d_Builder___init__, d_Frame___init__, d_list_of, d_map_of, d_Frame_built, d_Frame_put, d_Builder__put, d_Builder_take, d__take_all, d_value_of_text, d_read_bencode, d__law_read, d__law_utf8, d__law_ascii, d__law_string, d__law_leaf_written, d__law_due, d_law]
def fa : List He.Fa := [.glo "_law_cell", .glo "_law_numbers", .glo "_law_state", .glo "_law_next", .glo "_law_many", .glo "_law_points", .glo "_law_big", .glo "_law_normal", .glo "_law_number", .glo "_law_octets", .glo "_law_leaf", .glo "_law_value", .glo "_law_towered", .glo "_law_same", .glo "_law_mixed", .glo "_law_events", .glo "_law_lacks", .glo "_law_kinds", .glo "power", .glo "whole", .glo "digits_of", .glo "signed_digits", .glo "in_ascii", .glo "with_count", .glo "leaf_octets", .glo "_encode_long", .glo "encode", .glo "key_octets", .glo "is_lacking", .glo "_law_taken", .glo "is_digit", .glo "normal", .glo "list_of", .glo "map_of", .glo "_take_all", .glo "value_of_text", .glo "read_bencode", .glo "_law_read", .glo "_law_utf8", .glo "_law_ascii", .glo "_law_string", .glo "_law_leaf_written", .glo "_law_due", .glo "law", .free "divmod", .free "str", .free "reversed", .free "abs", .free "len", .free "list", .free "tuple", .free "range", .free "sorted", .free "int", .free "isinstance", .free "bool", .free "ord", .int "PIECE" 10000000000000000000000000000000000000000000000000000000000000000, .int "PIECE_DIGITS" 64, .int "ZERO_counted" 48, .int "NINE" 57, .int "COLON" 58, .int "LARGEST_EXPONENT" 800, .int "SMALL_E" 101, .int "SMALL_D" 100, .int "SMALL_L" 108, .int "MINUS" 45, .int "ZERO_marks" 48, .int "DEEPEST" 24, .int "SMALL_I" 105, .glo "Doubled", .glo "Unwritable", .glo "Unreadable", .glo "AlikeError", .glo "is_lacking", .cls "Counted", .glo "Counted", .mkr "Counted", .noat "Counted" "is_done", .noat "Counted" "can_end", .noat "Counted" "has_begun", .noat "Counted" "octets", .noat "Counted" "_missing", .meth "Counted" "take", .meth "Counted" "_take_in_count", .meth "Counted" "leaf", .cls "Utf8", .glo "Utf8", .mkr "Utf8", .noat "Utf8" "points", .noat "Utf8" "_missing", .noat "Utf8" "_worth", .noat "Utf8" "_least", .noat "Utf8" "_most", .meth "Utf8" "take", .meth "Utf8" "_begin", .meth "Utf8" "_go_on", .cls "Begun", .glo "Begun", .mkr "Begun", .noat "Begun" "_many", .meth "Begun" "note", .meth "Begun" "_count", .cls "BencodeLoose", .glo "BencodeLoose", .mkr "BencodeLoose", .noat "BencodeLoose" "_begun", .meth "BencodeLoose" "take", .cls "Numeral", .glo "Numeral", .mkr "Numeral", .noat "Numeral" "_sign", .noat "Numeral" "_worth", .noat "Numeral" "_scale", .noat "Numeral" "_exponent_sign", .noat "Numeral" "_exponent", .meth "Numeral" "negate", .meth "Numeral" "negate_exponent", .meth "Numeral" "add_digit", .meth "Numeral" "add_fraction_digit", .meth "Numeral" "add_exponent_digit", .meth "Numeral" "pair", .cls "BencodeNumber", .glo "BencodeNumber", .mkr "BencodeNumber", .noat "BencodeNumber" "is_done", .noat "BencodeNumber" "_numeral", .noat "BencodeNumber" "_state", .meth "BencodeNumber" "take", .meth "BencodeNumber" "_take_minus", .meth "BencodeNumber" "_take_digit", .meth "BencodeNumber" "leaf", .cls "BencodeKey", .glo "BencodeKey", .mkr "BencodeKey", .noat "BencodeKey" "is_done", .noat "BencodeKey" "_counted", .noat "BencodeKey" "_utf8", .meth "BencodeKey" "take", .meth "BencodeKey" "leaf", .cls "Nest", .glo "Nest", .mkr "Nest", .noat "Nest" "_levels", .meth "Nest" "inner", .meth "Nest" "grow", .meth "Nest" "shrink", .meth "Nest" "note_key", .cls "BencodeScanner", .glo "BencodeScanner", .mkr "BencodeScanner", .noat "BencodeScanner" "_place", .noat "BencodeScanner" "_wanted", .noat "BencodeScanner" "_nest", .noat "BencodeScanner" "_token", .meth "BencodeScanner" "step", .meth "BencodeScanner" "end", .meth "BencodeScanner" "_take", .meth "BencodeScanner" "_end_token", .meth "BencodeScanner" "_end_value", .meth "BencodeScanner" "_take_mark", .meth "BencodeScanner" "_begin_counted", .meth "BencodeScanner" "_grow", .meth "BencodeScanner" "_close", .cls "Frame", .glo "Frame", .mkr "Frame", .noat "Frame" "kind", .noat "Frame" "key", .noat "Frame" "inside", .meth "Frame" "put", .meth "Frame" "built", .cls "Builder", .glo "Builder", .mkr "Builder", .noat "Builder" "is_done", .noat "Builder" "value", .noat "Builder" "_frames", .meth "Builder" "take", .meth "Builder" "_put"]
def ex (K : Frg) : Bool := conB K "MARKS" (.tuple [.int 0, .int 192, .int 224, .int 240]) && (conB K "FIRSTS" (.tuple [.tuple [.int 194, .int 223, .int 1, .int 128, .int 191], .tuple [.int 224, .int 224, .int 2, .int 160, .int 191], .tuple [.int 225, .int 236, .int 2, .int 128, .int 191], .tuple [.int 237, .int 237, .int 2, .int 128, .int 159], .tuple [.int 238, .int 239, .int 2, .int 128, .int 191], .tuple [.int 240, .int 240, .int 3, .int 144, .int 191], .tuple [.int 241, .int 243, .int 3, .int 128, .int 191], .tuple [.int 244, .int 244, .int 3, .int 128, .int 143]]) && (exkB K (He.ga K "Doubled") (meAd "AlikeError" "__init__" K) "what" && (exkB K (He.ga K "Unwritable") (meAd "AlikeError" "__init__" K) "what" && (exkB K (He.ga K "Unreadable") (meAd "AlikeError" "__init__" K) "what" && (exkB K (He.ga K "AlikeError") (meAd "AlikeError" "__init__" K) "what" && (isxB K (He.ga K "Unwritable") && (decide (PySem.W.exmOne K (.ref (He.ga K "Unwritable")) (.ref (He.ga K "AlikeError")) = some true) && (decide (PySem.W.kitOne K (.ref (He.ga K "Unwritable")) (.ref (He.ga K "Unreadable")) = some false) && (decide (PySem.W.kitOne K (.ref (He.ga K "Unwritable")) (.ref (He.ga K "Doubled")) = some false) && (decide (PySem.W.kitOne K (.ref (He.ga K "Unwritable")) (.ref (He.ga K "Unwritable")) = some true) && (prB K "Utf8" "is_open" && (digB K))))))))))))
def al : List Addr := ([2, 3, 6, 4, 21, 28, 35, 42, 49, 56, 63, 68, 75, 113, 118, 127, 134, 141, 187, 198, 205, 212, 230, 243, 255, 267, 276, 281, 312, 340, 403, 452, 487, 536, 620, 655, 690, 701, 708, 715, 722, 729, 734, 741, 748, 755, 762, 769, 776, 781, 788, 793, 800, 807, 812, 819, 826, 833, 840, 847, 854, 861, 868, 875, 882, 889, 0, 20, 27, 34, 41, 48, 55, 62, 67, 74, 112, 119, 120, 121, 122, 123, 124, 125, 126, 133, 140, 186, 197, 204, 211, 229, 242, 254, 266, 275, 280, 311, 339, 402] : List Addr) ++ ([451, 486, 535, 619, 654, 689, 700, 707, 714, 721, 728, 733, 740, 747, 754, 761, 768, 775, 780, 787, 792, 799, 806, 811, 818, 825, 832, 839, 846, 853, 860, 867, 874, 881, 888, 15, 16, 17, 18, 19, 22, 23, 24, 25, 26, 29, 30, 31, 32, 33, 36, 37, 38, 39, 40, 43, 44, 45, 46, 47, 50, 51, 52, 53, 54, 57, 58, 59, 60, 61, 64, 65, 66, 69, 70, 71, 72, 73, 89, 96, 103, 110, 111, 114, 115, 128, 129, 130, 131, 132, 135, 136, 137, 138, 139, 155, 163, 170, 177, 184] : List Addr) ++ ([185, 188, 189, 192, 193, 194, 195, 196, 199, 200, 201, 202, 203, 206, 207, 208, 209, 210, 227, 228, 231, 241, 253, 265, 270, 271, 272, 273, 274, 277, 278, 279, 295, 302, 309, 310, 313, 314, 330, 337, 338, 341, 342, 358, 365, 372, 379, 386, 393, 400, 401, 404, 405, 421, 428, 435, 442, 449, 450, 453, 454, 470, 477, 484, 485, 488, 489, 505, 512, 519, 526, 533, 534, 537, 538, 554, 561, 568, 575, 582, 589, 596, 603, 610, 617, 618, 621, 622, 638, 645, 652, 653, 656, 657, 673, 680, 687, 688, 691, 692] : List Addr) ++ ([695, 696, 697, 698, 699, 702, 703, 704, 705, 706, 709, 710, 711, 712, 713, 716, 717, 718, 719, 720, 723, 724, 725, 726, 727, 730, 731, 732, 735, 736, 737, 738, 739, 742, 743, 744, 745, 746, 749, 750, 751, 752, 753, 756, 757, 758, 759, 760, 763, 764, 765, 766, 767, 770, 771, 772, 773, 774, 777, 778, 779, 782, 783, 784, 785, 786, 789, 790, 791, 794, 795, 796, 797, 798, 801, 802, 803, 804, 805, 808, 809, 810, 813, 814, 815, 816, 817, 820, 821, 822, 823, 824, 827, 828, 829, 830, 831, 834, 835, 836] : List Addr) ++ ([837, 838, 841, 842, 843, 844, 845, 848, 849, 850, 851, 852, 855, 856, 857, 858, 859, 862, 863, 864, 865, 866, 869, 870, 871, 872, 873, 876, 877, 878, 879, 880, 883, 884, 885, 886, 887, 88, 95, 102, 109, 154, 162, 169, 176, 183, 226, 220, 294, 301, 308, 329, 336, 357, 364, 371, 378, 385, 392, 399, 420, 427, 434, 441, 448, 469, 476, 483, 504, 511, 518, 525, 532, 553, 560, 567, 574, 581, 588, 595, 602, 609, 616, 637, 644, 651, 672, 679, 686, 83, 84, 85, 86, 87, 90, 91, 92, 93, 94, 97] : List Addr) ++ ([98, 99, 100, 101, 104, 105, 106, 107, 108, 149, 150, 151, 152, 153, 161, 164, 165, 166, 167, 168, 171, 172, 173, 174, 175, 178, 179, 180, 181, 182, 221, 222, 223, 224, 225, 289, 290, 291, 292, 293, 296, 297, 298, 299, 300, 303, 304, 305, 306, 307, 324, 325, 326, 327, 328, 331, 332, 333, 334, 335, 352, 353, 354, 355, 356, 359, 360, 361, 362, 363, 366, 367, 368, 369, 370, 373, 374, 375, 376, 377, 380, 381, 382, 383, 384, 387, 388, 389, 390, 391, 394, 395, 396, 397, 398, 415, 416, 417, 418, 419] : List Addr) ++ ([422, 423, 424, 425, 426, 429, 430, 431, 432, 433, 436, 437, 438, 439, 440, 443, 444, 445, 446, 447, 464, 465, 466, 467, 468, 471, 472, 473, 474, 475, 478, 479, 480, 481, 482, 499, 500, 501, 502, 503, 506, 507, 508, 509, 510, 513, 514, 515, 516, 517, 520, 521, 522, 523, 524, 527, 528, 529, 530, 531, 548, 549, 550, 551, 552, 555, 556, 557, 558, 559, 562, 563, 564, 565, 566, 569, 570, 571, 572, 573, 576, 577, 578, 579, 580, 583, 584, 585, 586, 587, 590, 591, 592, 593, 594, 597, 598, 599, 600, 601] : List Addr) ++ ([604, 605, 606, 607, 608, 611, 612, 613, 614, 615, 632, 633, 634, 635, 636, 639, 640, 641, 642, 643, 646, 647, 648, 649, 650, 667, 668, 669, 670, 671, 674, 675, 676, 677, 678, 681, 682, 683, 684, 685] : List Addr)
abbrev RR : PySem.W.OpenRow := PySem.W.OpenLaw.row PySem.Challenge.rw_formsalike_k41_bencode_loose
def loose : List PySem.Str := (["_wall", "ZERO_marks", "MINUS", "SMALL_D", "SMALL_E", "SMALL_I", "SMALL_L", "LARGEST_EXPONENT", "PIECE_DIGITS", "PIECE", "normal", "power", "whole", "digits_of", "signed_digits", "ZERO_counted", "NINE", "COLON", "is_digit", "in_ascii", "with_count", "Counted", "MARKS", "FIRSTS", "encode", "_encode_long", "Utf8", "is_lacking", "leaf_octets", "key_octets"] : List PySem.Str) ++ (["AlikeError", "Unreadable", "Unwritable", "Doubled", "DEEPEST", "list_of", "map_of", "Begun", "BencodeLoose", "Numeral", "BencodeNumber", "BencodeKey", "Nest", "BencodeScanner", "Frame", "Builder", "value_of_text", "_take_all", "read_bencode", "_law_cell", "_law_numbers", "_law_state", "_law_next", "_law_many", "_law_big", "_law_normal", "_law_number", "_law_points", "_law_octets", "_law_leaf"] : List PySem.Str) ++ (["_law_value", "_law_towered", "_law_mixed", "_law_ascii", "_law_utf8", "_law_same", "_law_string", "_law_leaf_written", "_law_events", "_law_lacks", "_law_kinds", "_law_taken", "_law_read", "_law_due"] : List PySem.Str)
abbrev hk : PySem.W.Hook := hookZ al fa ex fn
def ob (s : PySem.W.SharedT) : AlM := obsM fa ex fn (He.frG (HandSHeadRun.getT s) al)
theorem ob_eq (s : PySem.W.SharedT) : ob s = hk.obs s.abs := obsZ_eq (HandSHeadRun.getT_eq s)
theorem run (w : World) : HandSHeadRun.RunEq RR (PySem.W.view RR.prog [90]) hk ob 9000 loose w := by
  intro os
  kernel_rfl


/-! ### numbers by powers of ten -/
theorem pow_bits {b : Int} (hb : b.natAbs < 16) (c : Nat) : (b ^ c).natAbs < 2 ^ (4 * c + 1) := by
  rw [Int.natAbs_pow]
  have h1 : b.natAbs ^ c ≤ 16 ^ c := Nat.pow_le_pow_left (by omega) c
  have h2 : (16 : Nat) ^ c = 2 ^ (4 * c) := by
    rw [Nat.pow_mul]
  have h3 : (2 : Nat) ^ (4 * c) < 2 ^ (4 * c + 1) := Nat.pow_lt_pow_right (by decide) (by omega)
  omega
theorem bits10 (n : Nat) : (10 : Int) ^ n < 2 ^ (4 * n + 1) := by
  have h := pow_bits (b := 10) (by decide) n
  have e : ((10 : Int) ^ n).natAbs = 10 ^ n := by rw [Int.natAbs_pow]; rfl
  rw [e] at h
  have h2 : ((10 ^ n : Nat) : Int) < ((2 ^ (4 * n + 1) : Nat) : Int) := Int.ofNat_lt.mpr h
  rw [Int.natCast_pow, Int.natCast_pow] at h2
  exact h2
theorem abs10 {x : Int} {n : Nat} (h : x.natAbs < 10 ^ n) : x.natAbs < 2 ^ (4 * n + 1) := by
  have h1 := pow_bits (b := 10) (by decide) n
  have e : ((10 : Int) ^ n).natAbs = 10 ^ n := by rw [Int.natAbs_pow]; rfl
  rw [e] at h1
  omega
theorem abs_mul10 {x y : Int} {a b : Nat} (h1 : x.natAbs < 10 ^ a) (h2 : y.natAbs < 10 ^ b) : (x * y).natAbs < 10 ^ (a + b) := by
  rw [Int.natAbs_mul, Nat.pow_add]
  exact Nat.mul_lt_mul'' h1 h2
theorem natAbs10 (n : Nat) : ((10 : Int) ^ n).natAbs = 10 ^ n := by rw [Int.natAbs_pow]; rfl
theorem pow10_le {a b : Nat} (h : a ≤ b) : (10 : Nat) ^ a ≤ 10 ^ b := Nat.pow_le_pow_right (by decide) h
def sp_law (K : PySem.W.Frag) : Sp := sp1 fun a H Q _ => ∃ (sl : Addr) (ns : List Int), a = .ref sl ∧ SqL K H sl (ns.map V.int) ∧ ∀ H', Q (.bl true) H'

/-! ### normal -/

/-- the normal form, one zero after another -/
def nrm (m e : Int) : Int × Int := if m = 0 then (0, 0) else if m % 10 = 0 then nrm (m / 10) (e + 1) else (m, e)
termination_by m.natAbs
decreasing_by omega
theorem nrm_zero (e : Int) : nrm 0 e = (0, 0) := by
  unfold nrm
  simp
theorem nrm_stop {m : Int} (e : Int) (h : m % 10 ≠ 0) : nrm m e = (m, e) := by
  unfold nrm
  rw [if_neg (by omega), if_neg h]
theorem nrm_step {m : Int} (e : Int) (h0 : m ≠ 0) (h : m % 10 = 0) : nrm m e = nrm (m / 10) (e + 1) := by
  rw [nrm, if_neg h0, if_pos h]
theorem nrm_mul {a : Int} (h0 : a ≠ 0) (e : Int) : ∀ k : Nat, nrm (a * 10 ^ k) e = nrm a (e + k)
  | 0 => by simp
  | k + 1 => by
    have h1 : a * 10 ^ k ≠ 0 := Int.mul_ne_zero h0 (Int.ne_of_gt (Int.pow_pos (by decide)))
    have e1 : a * 10 ^ (k + 1) = 10 * (a * 10 ^ k) := by
      rw [Int.pow_succ, ← Int.mul_assoc, Int.mul_comm]
    rw [e1, nrm_step e (by omega) (by omega), show 10 * (a * 10 ^ k) / 10 = a * 10 ^ k by omega, nrm_mul h0 (e + 1) k]
    congr 1
    omega
theorem nrm_is {m a : Int} (h : a % 10 ≠ 0) (k : Nat) (e1 : m = a * 10 ^ k) (e : Int) : nrm m e = (a, e + k) := by
  rw [e1, nrm_mul (by omega), nrm_stop _ h]
theorem nrm_spec : ∀ (n : Nat) (m e : Int), m.natAbs ≤ n → m ≠ 0 → ∃ (a : Int) (k : Nat), nrm m e = (a, e + k) ∧ a % 10 ≠ 0 ∧ m = a * 10 ^ k
  | 0, m, _, h, h0 => absurd (Int.natAbs_eq_zero.mp (by omega)) h0
  | n + 1, m, e, h, h0 => by
    by_cases c : m % 10 = 0
    · obtain ⟨a, k, h1, h2, h3⟩ := nrm_spec n (m / 10) (e + 1) (by omega) (by omega)
      refine ⟨a, k + 1, ?_, h2, ?_⟩
      · rw [nrm_step e h0 c, h1]
        congr 1
        omega
      · rw [Int.pow_succ, ← Int.mul_assoc, ← h3]
        omega
    · exact ⟨m, 0, by rw [nrm_stop e c]; simp, c, by simp⟩
theorem nrm_of {m : Int} (e : Int) (h0 : m ≠ 0) : ∃ (a : Int) (k : Nat), nrm m e = (a, e + k) ∧ a % 10 ≠ 0 ∧ m = a * 10 ^ k := nrm_spec _ m e (Nat.le_refl _) h0
theorem nrm_piece {m : Int} (e : Int) (h0 : m ≠ 0) (h : m % 10000000000000000000000000000000000000000000000000000000000000000 = 0) :
    nrm (m / 10000000000000000000000000000000000000000000000000000000000000000) (e + 64) = nrm m e := by
  have e1 : m = (m / 10000000000000000000000000000000000000000000000000000000000000000) * 10 ^ 64 := by
    have e2 : (10 : Int) ^ 64 = 10000000000000000000000000000000000000000000000000000000000000000 := by decide
    rw [e2]
    omega
  have h1 : m / 10000000000000000000000000000000000000000000000000000000000000000 ≠ 0 := by omega
  have e3 := nrm_mul h1 e 64
  rw [← e1] at e3
  exact e3.symm
def sp_normal : Sp := sp2 fun a b H Q _ => ∃ m e, a = .int m ∧ b = .int e ∧ ∀ p x y, nrm m e = (x, y) → H p = none → Q (.ref p) (upd H p (.tup [.int x, .int y]))
section
variable {P : Program} {w : World} {K : PySem.W.Frag} {mg : Str → Option Value} {base : Heap} {f : Addr} {fd : FuncData}
theorem ok_normal (F : FunD K "normal" "normal" (defArgs s_normal) (defBody s_normal) (defScope s_normal) [] [] (glAd "normal" K) fd) (m : mg "normal" = some (.ref (glAd "normal" K))) (nb : Nm K mg) : Cal P w K mg base 1 "normal" sp_normal [] := by
  refine calD F m sc_normal (fun _ _ _ _ _ _ us hl => match us, hl with | [_, _], _ => rfl) len2 (fun cdv A outer s H vs Q E hr h => ⟨_, (pss_cons (ps_if (pt_cmpR op_eq (pv 0) pe_int (nomark _))
    (pss_one (ps_ret (pe_tup (pa_cons pe_int (pa_cons pe_int pa_nil)))))
    pss_nil)
    (pss_cons (ps_while PassesOwn.never (pt_cmpR op_eq (pe_op op_mod (pv 0) (pe_gc rfl nb.g_PIECE)) pe_int (nomark _))
    (pss_cons (ps_set (i := 0) sc_normal.nd rfl (Or.inl rfl) (pe_op op_fdivW (pv 0) (pe_gc rfl nb.g_PIECE)))
    (pss_one (ps_set (i := 1) sc_normal.nd rfl (Or.inl rfl) (pe_op op_add (pv 1) (pe_gc rfl nb.g_PIECE_DIGITS))))))
    (pss_cons (ps_while PassesOwn.never (pt_cmpR op_eq (pe_op op_mod (pv 0) pe_int) pe_int (nomark _))
    (pss_cons (ps_set (i := 0) sc_normal.nd rfl (Or.inl rfl) (pe_op op_fdiv (pv 0) pe_int))
    (pss_one (ps_set (i := 1) sc_normal.nd rfl (Or.inl rfl) (pe_op op_add (pv 1) pe_int)))))
    (pss_one (ps_ret (pe_tup (pa_cons (pv 0) (pa_cons (pv 1) pa_nil)))))))), ?_⟩)
  obtain ⟨_, _, rfl, m, e, rfl, rfl, h⟩ := h
  walk_at "rd"
  refine r_ite (fun c => ?_) (fun c => ?_)
  · walk_at "rd"
    refine ⟨(by show 2 ≤ sizeLine; decide), fun p hp => ?_⟩
    exact h p 0 0 (by rw [c, nrm_zero]) hp
  · walk_at "rd"
    refine r_while (fun n σ H' => H = H' ∧ ∃ m' e', σ = [some (.int m'), some (.int e')] ∧ m' ≠ 0 ∧ nrm m' e' = nrm m e ∧ n = m'.natAbs) _ ⟨rfl, m, e, rfl, c, rfl, rfl⟩ ?_
    rintro n σ _ ⟨rfl, m', e', rfl, h0, h1, rfl⟩
    walk_at "rd"
    refine r_ite (fun c2 => ?_) (fun c2 => ?_)
    · refine r_turn ?_
      walk_at "rd"
      exact ⟨_, by omega, rfl, _, _, rfl, by omega, by rw [nrm_piece e' h0 c2]; exact h1, rfl⟩
    · walk_at "rd"
      refine r_while (fun n σ H' => H = H' ∧ ∃ m' e', σ = [some (.int m'), some (.int e')] ∧ m' ≠ 0 ∧ nrm m' e' = nrm m e ∧ n = m'.natAbs) _ ⟨rfl, m', e', rfl, h0, h1, rfl⟩ ?_
      rintro n σ _ ⟨rfl, m', e', rfl, h0, h1, rfl⟩
      walk_at "rd"
      refine r_ite (fun c3 => ?_) (fun c3 => ?_)
      · refine r_turn ?_
        walk_at "rd"
        exact ⟨_, by omega, rfl, _, _, rfl, by omega, by rw [← nrm_step e' h0 c3]; exact h1, rfl⟩
      · walk_at "rd"
        refine ⟨(by show 2 ≤ sizeLine; decide), fun p hp => ?_⟩
        exact h p m' e' (by rw [← h1, nrm_stop e' c3]) hp
end

/-! ### power -/

def sp_power : Sp := sp2 fun a b H Q _ => ∃ (x : Int) (n : Nat), a = .int x ∧ b = .int (n : Int) ∧ x.natAbs < 16 ∧ n ≤ 100000 ∧ Q (.int (x ^ n)) H
section
variable {P : Program} {w : World} {K : PySem.W.Frag} {mg : Str → Option Value} {base : Heap} {f : Addr} {fd : FuncData}
theorem ok_power (F : FunD K "power" "power" (defArgs s_power) (defBody s_power) (defScope s_power) [] [] (glAd "power" K) fd) (m : mg "power" = some (.ref (glAd "power" K))) (nb : Nm K mg) : Cal P w K mg base 1 "power" sp_power [] := by
  refine calD F m sc_power (fun _ _ _ _ _ _ us hl => match us, hl with | [_, _], _ => rfl) len2 (fun cdv A outer s H vs Q E hr h => ⟨_, (pss_cons (ps_set (i := 2) sc_power.nd rfl (Or.inl rfl) pe_int)
    (pss_cons (ps_while PassesOwn.never (pt_cmpR op_gt (pv 1) pe_int (nomark _))
    (pss_cons (ps_if (pt_cmpR op_eq (pe_op op_mod (pv 1) pe_int) pe_int (nomark _))
    (pss_one (ps_set (i := 2) sc_power.nd rfl (Or.inl rfl) (pe_op op_mulX (pv 2) (pv 0))))
    pss_nil)
    (pss_cons (ps_set (i := 0) sc_power.nd rfl (Or.inl rfl) (pe_op op_mulX (pv 0) (pv 0)))
    (pss_one (ps_set (i := 1) sc_power.nd rfl (Or.inl rfl) (pe_op op_fdiv (pv 1) pe_int))))))
    (pss_one (ps_ret (pv 2))))), ?_⟩)
  obtain ⟨_, _, rfl, x, n, rfl, rfl, hx, hn, h⟩ := h
  walk_at "rd"
  refine r_while (fun k σ H' => H = H' ∧ ∃ c d : Nat, σ = [some (.int (x ^ c)), some (.int (k : Int)), some (.int (x ^ d))] ∧ d + c * k = n ∧ c ≤ 2 * n + 1) n ⟨rfl, 1, 0, by rw [Int.pow_one, Int.pow_zero] <;> rfl, by omega, by omega⟩ ?_
  rintro k σ _ ⟨rfl, c, d, rfl, h1, h2⟩
  walk_at "rd"
  refine r_ite (fun c2 => ?_) (fun c2 => ?_)
  · have h3 : c ≤ n := by
      have h4 : c * 1 ≤ c * k := Nat.mul_le_mul_left c (by omega)
      omega
    have hb := pow_bits hx c
    have hd := pow_bits hx d
    refine r_turn ?_
    walk_at "rd"
    refine r_ite (fun c3 => ?_) (fun c3 => ?_)
    · walk_at "rd"
      refine r_I (mulx_ok hd hb (by omega)) ?_
      walk_at "rd"
      refine r_I (mulx_ok hb hb (by omega)) ?_
      walk_at "rd"
      have e1 : k = 2 * (k / 2) + 1 := by omega
      refine ⟨k / 2, by omega, rfl, c + c, d + c, ?_, ?_, by omega⟩
      · rw [Int.pow_add, Int.pow_add]
        rfl
      · have e2 : c * k = c * (2 * (k / 2)) + c := by
          conv => lhs; rw [e1]
          rw [Nat.mul_add, Nat.mul_one]
        have e3 : (c + c) * (k / 2) = c * (2 * (k / 2)) := by
          rw [← Nat.two_mul, Nat.mul_comm 2 c, Nat.mul_assoc]
        omega
    · walk_at "rd"
      refine r_I (mulx_ok hb hb (by omega)) ?_
      walk_at "rd"
      have e1 : k = 2 * (k / 2) := by omega
      refine ⟨k / 2, by omega, rfl, c + c, d, ?_, ?_, by omega⟩
      · rw [Int.pow_add]
        rfl
      · have e2 : c * k = c * (2 * (k / 2)) := by
          conv => lhs; rw [e1]
        have e3 : (c + c) * (k / 2) = c * (2 * (k / 2)) := by
          rw [← Nat.two_mul, Nat.mul_comm 2 c, Nat.mul_assoc]
        omega
  · have e : k = 0 := by omega
    subst e
    walk_at "rd"
    have e2 : d = n := by omega
    rw [e2]
    exact h
end

/-! ### whole -/

def sp_whole : Sp := sp3 fun a b c H Q _ => ∃ m e t : Int, a = .int m ∧ b = .int e ∧ c = .int t ∧ t ≤ 1000 ∧ m.natAbs < 2 ^ 1000000 ∧ (0 ≤ e ∧ e ≤ t → Q (.int (m * 10 ^ e.toNat)) H) ∧ (¬ (0 ≤ e ∧ e ≤ t) → Q .non H)
section
variable {P : Program} {w : World} {K : PySem.W.Frag} {mg : Str → Option Value} {base : Heap} {f : Addr} {fd : FuncData}
theorem ok_whole (F : FunD K "whole" "whole" (defArgs s_whole) (defBody s_whole) (defScope s_whole) [] [] (glAd "whole" K) fd) (m : mg "whole" = some (.ref (glAd "whole" K))) (nb : Nm K mg) (c_power : Cal P w K mg base 1 "power" sp_power []) : Cal P w K mg base 2 "whole" sp_whole [] := by
  refine calD F m sc_whole (fun _ _ _ _ _ _ us hl => match us, hl with | [_, _, _], _ => rfl) len3 (fun cdv A outer s H vs Q E hr h => ⟨_, (pss_cons (ps_if (pt_chain op_le op_le pe_int (pv 1) (pv 2))
    (pss_one (ps_ret (pe_op op_mulX (pv 0) (pe_c c_power hr (by decide) rfl (pa_cons pe_int (pa_cons (pv 1) pa_nil))))))
    pss_nil)
    (pss_one (ps_ret pe_non))), ?_⟩)
  obtain ⟨_, _, _, rfl, m, e, t, rfl, rfl, rfl, ht, hm, h1, h2⟩ := h
  walk_at "rd"
  refine r_ite (fun c1 => ?_) (fun c1 => ?_)
  · walk_at "rd"
    refine r_ite (fun c2 => ?_) (fun c2 => ?_)
    · walk_at "rd"
      refine ⟨_, _, rfl, 10, e.toNat, rfl, congrArg V.int (by omega), by decide, by omega, ?_⟩
      refine r_I (mulx_ok hm (pow_bits (by decide) _) (by omega)) ?_
      exact h1 ⟨c1, c2⟩
    · walk_at "rd"
      exact h2 (by omega)
  · walk_at "rd"
    exact h2 (by omega)
end

/-! ### the law's state: a list of drawn numbers, its place, and the script; every draw is any number below its bound -/
structure SC where
  a : Addr
  nl : Addr
  sl : Addr
  nums : List Int
  ns : List Int
structure LS (K : PySem.W.Frag) (S : SC) (H : Hp) : Prop where
  st : ∃ k l f : Int, H S.a = some (.lst [.ref S.nl, .int k, .int l, .ref S.sl, .int f])
  nm : H S.nl = some (.lst (S.nums.map V.int))
  len : S.nums.length = 120
  ne : S.nl ≠ S.a
  scr : SqL K H S.sl (S.ns.map V.int)
/-- all but the state's own list stays -/
def Keep (S : SC) (H H' : Hp) : Prop := ∀ b o, b ≠ S.a → H b = some o → H' b = some o
theorem Keep.refl (S : SC) (H : Hp) : Keep S H H := fun _ _ _ h => h
theorem Keep.trans {S : SC} {H H1 H2 : Hp} (a : Keep S H H1) (b : Keep S H1 H2) : Keep S H H2 := fun c o n h => b c o n (a c o n h)
theorem Keep.of {S : SC} {H H' : Hp} (h : Same H H') : Keep S H H' := fun b o _ q => h b o q
section
variable {K : PySem.W.Frag} {S : SC} {H H' : Hp}
theorem LS.same (L : LS K S H) (h : Same H H') : LS K S H' := by
  obtain ⟨⟨k, l, f, e⟩, h2, h3, h4, h5⟩ := L
  exact ⟨⟨k, l, f, h _ _ e⟩, h _ _ h2, h3, h4, h.seq h5⟩
theorem LS.new (L : LS K S H) {p : Addr} (h : H p = none) (o : HO) : LS K S (upd H p o) := L.same (same_upd h o)
theorem LS.put (L : LS K S H) (k l f : Int) : LS K S (upd H S.a (.lst [.ref S.nl, .int k, .int l, .ref S.sl, .int f])) := by
  obtain ⟨⟨k', l', f', e⟩, h2, h3, h4, h5⟩ := L
  refine ⟨⟨k, l, f, upd_same⟩, (upd_ne h4).trans h2, h3, h4, ?_⟩
  rcases h5 with (h | ⟨o, h⟩) | h
  · refine .inl (.inl ((upd_ne fun q => ?_).trans h))
    rw [q, e] at h
    injection h with h
    injection h with h
    cases hn : S.ns with
    | nil =>
      rw [hn] at h
      cases h
    | cons x r =>
      rw [hn] at h
      cases h
  · refine .inl (.inr ⟨o, (upd_ne fun q => ?_).trans h⟩)
    rw [q, e] at h
    cases h
  · exact .inr h
theorem Keep.put (o : HO) : Keep S H (upd H S.a o) := fun b u n h => (upd_ne n).trans h
/-- an address that is free later was free before -/
theorem Keep.free (h : Keep S H H') (L : LS K S H') {p : Addr} (hp : H' p = none) : H p = none := by
  have n : p ≠ S.a := fun e => by
    obtain ⟨k, l, f, q⟩ := L.st
    rw [e, q] at hp
    cases hp
  cases e : H p with
  | none => rfl
  | some o =>
    rw [h p o n e] at hp
    cases hp
theorem LS.ne_free (L : LS K S H) {p : Addr} (hp : H p = none) : p ≠ S.a := fun e => by
  obtain ⟨k, l, f, q⟩ := L.st
  rw [e, q] at hp
  cases hp
end
/-- the state with what is left of its budget -/
structure LB (K : PySem.W.Frag) (S : SC) (l : Int) (H : Hp) : Prop where
  ls : LS K S H
  at_ : ∃ k f : Int, H S.a = some (.lst [.ref S.nl, .int k, .int l, .ref S.sl, .int f])
section
variable {K : PySem.W.Frag} {S : SC} {l : Int} {H H' : Hp}
theorem LB.same (L : LB K S l H) (h : Same H H') : LB K S l H' := by
  obtain ⟨h1, k, f, e⟩ := L
  exact ⟨h1.same h, k, f, h _ _ e⟩
theorem LB.new (L : LB K S l H) {p : Addr} (h : H p = none) (o : HO) : LB K S l (upd H p o) := L.same (same_upd h o)
theorem LB.put (L : LB K S l H) (k l' f : Int) : LB K S l' (upd H S.a (.lst [.ref S.nl, .int k, .int l', .ref S.sl, .int f])) := ⟨L.ls.put k l' f, k, f, upd_same⟩
theorem LB.ne_free (L : LB K S l H) {p : Addr} (hp : H p = none) : p ≠ S.a := L.ls.ne_free hp
theorem LB.noTup (L : LB K S l H) {a : Addr} {xs : List V} (h : H a = some (.tup xs)) : a ≠ S.a := fun e => by
  obtain ⟨_, k, f, e'⟩ := L
  rw [e, e'] at h
  cases h
end




def sp__law_cell (K : PySem.W.Frag) : Sp := sp2 fun a b H Q _ => ∃ (sl : Addr) (ns : List Int) (k : Int), a = .ref sl ∧ b = .int k ∧ SqL K H sl (ns.map V.int) ∧ 0 ≤ k ∧ ∀ z : Int, Q (.int z) H
def sp__law_numbers : Sp := sp2 fun a b H Q _ => ∃ (z : Int) (n : Nat), a = .int z ∧ b = .int (n : Int) ∧ n ≤ 1000 ∧ ∀ (p : Addr) (xs : List Int), H p = none → xs.length = n → Q (.ref p) (upd H p (.lst (xs.map V.int)))
def sp__law_state (K : PySem.W.Frag) : Sp := sp2 fun a b H Q _ => ∃ (sl : Addr) (ns : List Int) (l : Int), a = .ref sl ∧ b = .int l ∧ SqL K H sl (ns.map V.int) ∧
  ∀ (S : SC) (H' : Hp), S.sl = sl → S.ns = ns → LB K S l H' → Same H H' → H S.a = none → Q (.ref S.a) H'
def sp__law_next (K : PySem.W.Frag) : Sp := sp2 fun a b H Q _ => ∃ (S : SC) (l : Int) (m : Int), a = .ref S.a ∧ b = .int m ∧ 0 < m ∧ LB K S l H ∧ ∀ (r : Int) (H' : Hp), 0 ≤ r → r < m → LB K S l H' → Keep S H H' → Q (.int r) H'
section
variable {P : Program} {w : World} {K : PySem.W.Frag} {mg : Str → Option Value} {base : Heap} {f : Addr} {fd : FuncData}
theorem ok__law_cell (F : FunD K "_law_cell" "_law_cell" (defArgs s__law_cell) (defBody s__law_cell) (defScope s__law_cell) [] [] (glAd "_law_cell" K) fd) (m : mg "_law_cell" = some (.ref (glAd "_law_cell" K))) (nb : Nm K mg) : Cal P w K mg base 1 "_law_cell" (sp__law_cell K) [] := by
  refine calD F m sc__law_cell (fun _ _ _ _ _ _ us hl => match us, hl with | [_, _], _ => rfl) len2 (fun cdv A outer s H vs Q E hr h => ⟨_, (pss_cons (ps_if (pt_cmpR op_lt (pv 1) (pe_callB call_len_seq (by rfl) nb.len PySem.boot_len (pa_cons (pv 0) pa_nil)) (nomark _))
    (pss_one (ps_ret (pe_ix ix_list (pv 0) (pv 1) (fun _ _ => rfl))))
    pss_nil)
    (pss_one (ps_ret pe_int))), ?_⟩)
  obtain ⟨_, _, rfl, sl, ns, k, rfl, rfl, hs, h0, h⟩ := h
  walk_at "rd"
  refine ⟨_, _, rfl, .inl hs, ?_⟩
  walk_at "rd"
  refine r_ite (fun c => ?_) (fun c => ?_)
  · rw [List.length_map] at c
    obtain ⟨v, _, e⟩ := atI_ints h0 c
    walk_at "rd"
    exact r_ixL hs e (h v)
  · walk_at "rd"
    exact h 0
theorem ok__law_numbers (F : FunD K "_law_numbers" "_law_numbers" (defArgs s__law_numbers) (defBody s__law_numbers) (defScope s__law_numbers) [] [] (glAd "_law_numbers" K) fd) (m : mg "_law_numbers" = some (.ref (glAd "_law_numbers" K))) (nb : Nm K mg) : Cal P w K mg base 1 "_law_numbers" sp__law_numbers [] := by
  refine calD F m sc__law_numbers (fun _ _ _ _ _ _ us hl => match us, hl with | [_, _], _ => rfl) len2 (fun cdv A outer s H vs Q E hr h => ⟨_, (pss_cons (ps_set (i := 2) sc__law_numbers.nd rfl (Or.inl rfl) (pe_callB call_abs (by rfl) nb.abs (by decide +kernel) (pa_cons (pv 0) pa_nil)))
    (pss_cons (ps_set (i := 3) sc__law_numbers.nd rfl (Or.inl rfl) (pv 2))
    (pss_cons (ps_set (i := 4) sc__law_numbers.nd rfl (Or.inl rfl) (pe_lst pa_nil))
    (pss_cons (ps_for PassesOwn.never rfl (pi_range1 rfl nb.range (pa_cons (pv 1) pa_nil)) (pg_name (i := 5) sc__law_numbers.nd rfl (Or.inl rfl))
    (pss_one (ps_if (PW.pt (pw_and (pt_cmpR op_ge (pv 3) (pe_op op_pow pe_int pe_int) (nomark _)) (pw_and1 (pt_cmpR op_gt (pv 2) pe_int (nomark _)))))
    (pss_cons (ps_expr (pe_bm PySem.F.plainAttrs_list PySem.F.slot_list_append PySem.F.type_list_append mt_append (pv 4) (pa_cons (pe_op op_mod (pe_callTy call_int1 (by rfl) nb.int (by decide +kernel) (pa_cons (pv 2) pa_nil)) pe_int) pa_nil)))
    (pss_one (ps_set (i := 2) sc__law_numbers.nd rfl (Or.inl rfl) (pe_op op_fdiv (pv 2) pe_int))))
    (pss_cons (ps_set (i := 6) sc__law_numbers.nd rfl (Or.inl rfl) (pe_op op_mod (pe_callTy call_int1 (by rfl) nb.int (by decide +kernel) (pa_cons (pe_op op_add (pe_op op_add (pe_op op_mul (pv 3) pe_int) (pe_op op_mul (pv 5) pe_int)) pe_int) pa_nil)) pe_int))
    (pss_cons (ps_set (i := 6) sc__law_numbers.nd rfl (Or.inl rfl) (pe_op op_mod (pe_callTy call_int1 (by rfl) nb.int (by decide +kernel) (pa_cons (pe_op op_add (pe_op op_add (pe_op op_mul (pv 6) (pv 6)) (pe_op op_mul pe_int (pv 5))) pe_int) pa_nil)) pe_int))
    (pss_one (ps_expr (pe_bm PySem.F.plainAttrs_list PySem.F.slot_list_append PySem.F.type_list_append mt_append (pv 4) (pa_cons (pe_op op_mod (pe_callTy call_int1 (by rfl) nb.int (by decide +kernel) (pa_cons (pe_op op_fdiv (pv 6) pe_int) pa_nil)) pe_int) pa_nil)))))))))
    (pss_one (ps_ret (pv 4))))))), ?_⟩)
  obtain ⟨_, _, rfl, z, n, rfl, rfl, hn, h⟩ := h
  walk_at "rd"
  refine ⟨Nat.zero_le _, fun p hp => ?_⟩
  walk_at "rd"
  refine r_turns (by omega) (by omega) (fun i σ H' => ∃ (rest size : Int) (xs : List Int) (k mx : Option V), σ = [some (.int z), some (.int (n : Int)), some (.int rest), some (.int size), some (.ref p), k, mx] ∧ xs.length = i ∧ H' = upd H p (.lst (xs.map V.int))) ⟨_, _, [], none, none, rfl, rfl, rfl⟩ ?_ ?_
  · rintro i σ _ hi ⟨rest, size, xs, k, mx, rfl, hl, rfl⟩
    have hsz : (xs.map V.int).length < sizeLine := small1000 (by rw [List.length_map]; omega)
    have app : ∀ y : Int, upd (upd H p (.lst (xs.map V.int))) p (.lst (xs.map V.int ++ [.int y])) = upd H p (.lst ((xs ++ [y]).map V.int)) := fun y => by
      rw [upd_upd, List.map_append]
      rfl
    have two : ∀ r : Int, ∀ (σ' : St) (k mx : Option V) (rest size : Int), σ' = [some (.int z), some (.int (n : Int)), some (.int rest), some (.int size), some (.ref p), k, mx] → ∃ (rest size : Int) (xs' : List Int) (k mx : Option V), σ' = [some (.int z), some (.int (n : Int)), some (.int rest), some (.int size), some (.ref p), k, mx] ∧ xs'.length = i + 1 ∧ upd (upd H p (.lst (xs.map V.int))) p (.lst (xs.map V.int ++ [.int r])) = upd H p (.lst (xs'.map V.int)) := fun r σ' k mx rest size e =>
      ⟨rest, size, xs ++ [r], k, mx, e, by rw [List.length_append, hl]; rfl, app r⟩
    walk_at "rd"
    refine r_ite (fun c1 => ?_) (fun c1 => ?_)
    · walk_at "rd"
      refine r_ite (fun c2 => ?_) (fun c2 => ?_)
      · walk_at "rd"
        refine ⟨tyL upd_same, ?_⟩
        walk_at "rd"
        refine r_app upd_same hsz ?_
        walk_at "rd"
        exact two _ _ _ _ _ _ rfl
      · walk_at "rd"
        refine r_I (.inl ⟨by omega, by omega⟩) ?_
        walk_at "rd"
        refine ⟨tyL upd_same, ?_⟩
        walk_at "rd"
        refine r_app upd_same hsz ?_
        walk_at "rd"
        exact two _ _ _ _ _ _ rfl
    · walk_at "rd"
      refine r_I (.inl ⟨by omega, by omega⟩) ?_
      walk_at "rd"
      refine ⟨tyL upd_same, ?_⟩
      walk_at "rd"
      refine r_app upd_same hsz ?_
      walk_at "rd"
      exact two _ _ _ _ _ _ rfl
  · rintro σ _ ⟨rest, size, xs, k, mx, rfl, hl, rfl⟩
    walk_at "rd"
    exact h p xs hp (by omega)
theorem ok__law_next (F : FunD K "_law_next" "_law_next" (defArgs s__law_next) (defBody s__law_next) (defScope s__law_next) [] [] (glAd "_law_next" K) fd) (m : mg "_law_next" = some (.ref (glAd "_law_next" K))) (nb : Nm K mg) : Cal P w K mg base 1 "_law_next" (sp__law_next K) [] := by
  refine calD F m sc__law_next (fun _ _ _ _ _ _ us hl => match us, hl with | [_, _], _ => rfl) len2 (fun cdv A outer s H vs Q E hr h => ⟨_, (pss_cons (ps_set (i := 2) sc__law_next.nd rfl (Or.inl rfl) (pe_ix ix_list (pv 0) pe_int (fun _ _ => rfl)))
    (pss_cons (ps_asg (pe_op op_add (pv 2) pe_int) (pg_sub (pv 0) pe_int set_list))
    (pss_one (ps_ret (pe_op op_mod (pe_callTy call_int1 (by rfl) nb.int (by decide +kernel) (pa_cons (pe_op op_add (pe_ix ix_list (pe_ix ix_list (pv 0) pe_int (fun _ _ => rfl)) (pe_op op_mod (pe_callTy call_int1 (by rfl) nb.int (by decide +kernel) (pa_cons (pv 2) pa_nil)) pe_int) (fun _ _ => rfl)) (pe_op op_mul pe_int (pe_op op_fdiv (pv 2) pe_int))) pa_nil)) (pv 1)))))), ?_⟩)
  obtain ⟨_, _, rfl, S, l, mm, rfl, rfl, h0, L, h⟩ := h
  obtain ⟨L0, k, f5, e⟩ := L
  have L : LB K S l H := ⟨L0, k, f5, e⟩
  walk_at "rd"
  refine r_ixL (SqL.of e) rfl ?_
  walk_at "rd"
  refine r_setL e rfl ?_
  walk_at "rd"
  have L2 := L.put (k + 1) l f5
  obtain ⟨v, _, ev⟩ := atI_ints (ns := S.nums) (k := k % 120) (by omega) (by rw [L0.len]; omega)
  refine r_ixL (SqL.of upd_same) rfl ?_
  walk_at "rd"
  refine r_ixL (SqL.of L2.ls.nm) ev ?_
  walk_at "rd"
  refine r_I h0 ?_
  exact h _ _ (Int.emod_nonneg _ (by omega)) (Int.emod_lt_of_pos _ h0) L2 (Keep.put _)
theorem ok__law_state (F : FunD K "_law_state" "_law_state" (defArgs s__law_state) (defBody s__law_state) (defScope s__law_state) [] [] (glAd "_law_state" K) fd) (m : mg "_law_state" = some (.ref (glAd "_law_state" K))) (nb : Nm K mg) (c__law_cell : Cal P w K mg base 1 "_law_cell" (sp__law_cell K) []) (c__law_numbers : Cal P w K mg base 1 "_law_numbers" sp__law_numbers []) : Cal P w K mg base 2 "_law_state" (sp__law_state K) [] := by
  refine calD F m sc__law_state (fun _ _ _ _ _ _ us hl => match us, hl with | [_, _], _ => rfl) len2 (fun cdv A outer s H vs Q E hr h => ⟨_, (pss_cons (ps_set (i := 2) sc__law_state.nd rfl (Or.inl rfl) (pe_lst pa_nil))
    (pss_cons (ps_setLc (i := 4) (own := [("k", 3)]) (g := gName 3) (tt := tYes) rfl sc__law_state.nd rfl rfl (sw_true rfl rfl rfl (by decide +kernel)) (pi_range1 rfl nb.range (pa_cons pe_int pa_nil)) (blkOk_by (N := ["script", "left", "numbers", "k", "parted"]) (sc := defScope s__law_state) (by decide +kernel)) (fun _ _ _ _ _ => pg_name (i := 3) sc__law_state.nd rfl (Or.inl rfl)) (fun _ _ _ _ _ => pts_nil) (fun _ _ _ _ _ => (pe_c c__law_numbers hr (by decide) rfl (pa_cons (pe_c c__law_cell hr (by decide) rfl (pa_cons (pv 0) (pa_cons (pv 3) pa_nil))) (pa_cons pe_int pa_nil)))))
    (pss_cons (ps_for PassesOwn.never rfl (pi_range1 rfl nb.range (pa_cons pe_int pa_nil)) (pg_name (i := 3) sc__law_state.nd rfl (Or.inl rfl))
    (pss_cons (ps_expr (pe_bm PySem.F.plainAttrs_list PySem.F.slot_list_append PySem.F.type_list_append mt_append (pv 2) (pa_cons (pe_ix ix_list (pe_ix ix_list (pv 4) pe_int (fun _ _ => rfl)) (pv 3) (fun _ _ => rfl)) pa_nil)))
    (pss_cons (ps_expr (pe_bm PySem.F.plainAttrs_list PySem.F.slot_list_append PySem.F.type_list_append mt_append (pv 2) (pa_cons (pe_ix ix_list (pe_ix ix_list (pv 4) pe_int (fun _ _ => rfl)) (pv 3) (fun _ _ => rfl)) pa_nil)))
    (pss_one (ps_expr (pe_bm PySem.F.plainAttrs_list PySem.F.slot_list_append PySem.F.type_list_append mt_append (pv 2) (pa_cons (pe_ix ix_list (pe_ix ix_list (pv 4) pe_int (fun _ _ => rfl)) (pv 3) (fun _ _ => rfl)) pa_nil)))))))
    (pss_one (ps_ret (pe_lst (pa_cons (pv 2) (pa_cons pe_int (pa_cons (pv 1) (pa_cons (pv 0) (pa_cons pe_int pa_nil))))))))))), ?_⟩)
  obtain ⟨_, _, rfl, sl, ns, l, rfl, rfl, hs, h⟩ := h
  walk_at "rd"
  refine ⟨Nat.zero_le _, fun p hp => ?_⟩
  walk_at "rd"
  refine r_lcR 3 (by decide) (fun D hD => ?_) (fun R hR => hR)
  have sp0 := same_upd hp (.lst [])
  have pD : p ≠ D := fun e => by
    rw [← e, upd_same] at hD
    cases hD
  refine lc_range (fun i H' => ∃ ps : List Addr, H' D = some (.lst (ps.map V.ref)) ∧ ps.length = i ∧ (∀ q ∈ ps, q ≠ D ∧ ∃ xs : List Int, H' q = some (.lst (xs.map V.int)) ∧ xs.length = 40) ∧ Same (upd H p (.lst [])) H') ⟨[], upd_same, rfl, fun q hq => (by cases hq), same_upd hD _⟩ ?_ ?_
  · rintro i H' hi ⟨ps, e1, e2, e3, e4⟩
    walk_at "rd"
    refine ⟨rfl, ?_⟩
    walk_at "rd"
    have hs' : SqL K H' sl (ns.map V.int) := e4.seq (sp0.seq hs)
    refine ⟨_, _, rfl, sl, ns, _, rfl, rfl, hs', by omega, fun z => ?_⟩
    walk_at "rd"
    refine ⟨_, _, rfl, z, 40, rfl, rfl, by decide, fun q xs hq hx => ?_⟩
    have Dq : D ≠ q := ne_of_none e1 hq
    refine ⟨_, (upd_ne Dq).trans e1, small1000 (by rw [List.length_map]; omega), ps ++ [q], ?_, by rw [List.length_append, e2]; rfl, ?_, ?_⟩
    · rw [upd_same, List.map_append]
      rfl
    · intro q' hq'
      rcases List.mem_append.mp hq' with h1 | h1
      · obtain ⟨n1, xs', x1, x2⟩ := e3 q' h1
        exact ⟨n1, xs', by rw [upd_ne n1, upd_ne (ne_of_none x1 hq)]; exact x1, x2⟩
      · have e5 : q' = q := by simpa using h1
        subst e5
        exact ⟨Ne.symm Dq, xs, by rw [upd_ne (Ne.symm Dq), upd_same], hx⟩
    · intro b o hb
      have hb2 := e4 b o hb
      rw [upd_ne (ne_of_none hb hD), upd_ne (ne_of_none hb2 hq)]
      exact hb2
  · rintro H' ⟨ps, e1, e2, e3, e4⟩
    walk_at "rd"
    obtain ⟨p0, p1, p2, rfl⟩ : ∃ p0 p1 p2, ps = [p0, p1, p2] := match ps, e2 with | [a, b, c], _ => ⟨a, b, c, rfl⟩
    obtain ⟨_, x0, y0, z0⟩ := e3 p0 (by simp)
    obtain ⟨_, x1, y1, z1⟩ := e3 p1 (by simp)
    obtain ⟨_, x2, y2, z2⟩ := e3 p2 (by simp)
    have hp' : H' p = some (.lst []) := e4 _ _ upd_same
    have ne0 : ∀ {q : Addr} {xs : List Int}, H' q = some (.lst (xs.map V.int)) → xs.length = 40 → q ≠ p := fun {q xs} h1 h2 h3 => by
      rw [h3, hp'] at h1
      injection h1 with h1
      injection h1 with h1
      have h4 := congrArg List.length h1
      rw [List.length_map, h2] at h4
      cases h4
    have n0 := ne0 y0 z0
    have n1 := ne0 y1 z1
    have n2 := ne0 y2 z2
    have nD : D ≠ p := Ne.symm pD
    have fit : ∀ (xs : List Int) (i : Nat), xs.length = 40 → (i : Int) < 40 → ∃ v, atI (xs.map V.int) (i : Int) = some (.int v) := fun xs i h1 h2 => by
      obtain ⟨v, _, e⟩ := atI_ints (ns := xs) (k := (i : Int)) (by omega) (by omega)
      exact ⟨v, e⟩
    refine r_turns (by decide) (by decide) (fun i σ H2 => ∃ (zs : List Int) (kk : Option V), σ = [some (.ref sl), some (.int l), some (.ref p), kk, some (.ref D)] ∧ zs.length = 3 * i ∧ H2 = upd H' p (.lst (zs.map V.int))) ⟨[], none, rfl, rfl, ?_⟩ ?_ ?_
    · funext b
      by_cases c : b = p
      · subst c
        rw [upd_same, hp']
        rfl
      · rw [upd_ne c]
    · rintro i σ _ hi ⟨zs, kk, rfl, hz, rfl⟩
      obtain ⟨v0, a0⟩ := fit x0 i z0 hi
      obtain ⟨v1, a1⟩ := fit x1 i z1 hi
      obtain ⟨v2, a2⟩ := fit x2 i z2 hi
      walk_at "rd"
      refine ⟨tyL upd_same, ?_⟩
      walk_at "rd"
      refine r_ixL (SqL.of ((upd_ne nD).trans e1)) rfl ?_
      walk_at "rd"
      refine r_ixL (SqL.of ((upd_ne n0).trans y0)) a0 ?_
      walk_at "rd"
      refine r_app upd_same (small1000 (by rw [List.length_map]; omega)) ?_
      rw [upd_upd]
      walk_at "rd"
      refine ⟨tyL upd_same, ?_⟩
      walk_at "rd"
      refine r_ixL (SqL.of ((upd_ne nD).trans e1)) rfl ?_
      walk_at "rd"
      refine r_ixL (SqL.of ((upd_ne n1).trans y1)) a1 ?_
      walk_at "rd"
      refine r_app upd_same (small1000 (by rw [List.length_append, List.length_map]; show zs.length + 1 ≤ 1000; omega)) ?_
      rw [upd_upd]
      walk_at "rd"
      refine ⟨tyL upd_same, ?_⟩
      walk_at "rd"
      refine r_ixL (SqL.of ((upd_ne nD).trans e1)) rfl ?_
      walk_at "rd"
      refine r_ixL (SqL.of ((upd_ne n2).trans y2)) a2 ?_
      walk_at "rd"
      refine r_app upd_same (small1000 (by rw [List.length_append, List.length_append, List.length_map]; show zs.length + 1 + 1 ≤ 1000; omega)) ?_
      rw [upd_upd]
      exact ⟨zs ++ [v0] ++ [v1] ++ [v2], _, rfl, by simp [hz]; omega, by simp⟩
    · rintro σ _ ⟨zs, kk, rfl, hz, rfl⟩
      walk_at "rd"
      refine ⟨(by show 5 ≤ sizeLine; decide), fun a ha => ?_⟩
      have sa := same_upd ha (.lst [.ref p, .int 0, .int l, .ref sl, .int 3])
      have pa : p ≠ a := ne_of_none upd_same ha
      have all : Same H (upd H' p (.lst (zs.map V.int))) := fun b o hb => by
        rw [upd_ne (ne_of_none hb hp)]
        exact e4 _ _ (sp0 _ _ hb)
      have hsl : SqL K H sl (ns.map V.int) := hs
      refine h ⟨a, p, sl, zs, ns⟩ _ rfl rfl ⟨⟨⟨0, l, 3, upd_same⟩, (upd_ne pa).trans upd_same, by rw [hz]; rfl, pa, sa.seq (all.seq hs)⟩, 0, 3, upd_same⟩ (all.trans sa) (all.free ha)
end

/-! ### draws that keep the budget -/
section
variable {K : PySem.W.Frag} {S : SC} {l : Int} {σ : St} {H : Hp} {Q : VK} {E : XK}
theorem b_next {m : Int} (L : LB K S l H) (hm : 0 < m) (h : ∀ (r : Int) (H' : Hp), 0 ≤ r → r < m → LB K S l H' → Keep S H H' → Q (.int r) H') : sp__law_next K ([.ref S.a, .int m] ++ []) H Q E := ⟨_, _, rfl, S, l, m, rfl, rfl, hm, L, h⟩
/-- [x, y, ..][_law_next(state, n)] -/
theorem b_pick {xs : List V} {n : Int} {i : Nat} (L : LB K S l H) (e : σ[i]? = some (some (.ref S.a))) (hl : xs.length ≤ sizeLine) (hn : 0 < n) (hx : (xs.length : Int) = n)
    (h : ∀ (v : V) (H' : Hp), v ∈ xs → LB K S l H' → Keep S H H' → Q v H') :
    xs.length ≤ sizeLine ∧ ∀ p, H p = none → tCall (sp__law_next K) [] E (tCons (tVar i) (tCons (tC (.int n)) tNil)) σ (upd H p (.lst xs)) fun y H2 => rIxL K (.ref p) y H2 Q := by
  refine ⟨hl, fun p hp => ⟨_, e, ?_⟩⟩
  show sp__law_next K ([.ref S.a, .int n] ++ []) (upd H p (.lst xs)) (fun y H2 => rIxL K (.ref p) y H2 Q) E
  refine b_next (L.new hp _) hn fun r H' h0 h1 L' k => ?_
  have hr : r.toNat < xs.length := by omega
  have er : r = ((r.toNat : Nat) : Int) := by omega
  refine ⟨p, xs, r, xs[r.toNat], rfl, rfl, SqL.of (k _ _ (L.ne_free hp) upd_same), ?_, ?_⟩
  · have q := atI_nat (xs := xs) (j := r.toNat) (v := xs[r.toNat]) (List.getElem?_eq_getElem hr)
    rw [← er] at q
    exact q
  · exact h _ _ (List.getElem_mem hr) L' ((Keep.of (same_upd hp _)).trans k)
/-- the same, all of them numbers from lo to hi -/
theorem b_pickI {xs : List V} {n : Int} {i : Nat} (lo hi : Int) (L : LB K S l H) (e : σ[i]? = some (some (.ref S.a))) (hl : xs.length ≤ sizeLine) (hn : 0 < n) (hx : (xs.length : Int) = n) (hz : ∀ v ∈ xs, ∃ z, v = V.int z ∧ lo ≤ z ∧ z ≤ hi)
    (h : ∀ (z : Int) (H' : Hp), lo ≤ z → z ≤ hi → V.int z ∈ xs → LB K S l H' → Keep S H H' → Q (.int z) H') :
    xs.length ≤ sizeLine ∧ ∀ p, H p = none → tCall (sp__law_next K) [] E (tCons (tVar i) (tCons (tC (.int n)) tNil)) σ (upd H p (.lst xs)) fun y H2 => rIxL K (.ref p) y H2 Q :=
  b_pick L e hl hn hx fun v H' hv L' k => by
    obtain ⟨z, rfl, h1, h2⟩ := hz v hv
    exact h z H' h1 h2 hv L' k
theorem bl_nil {p : V → Prop} : ∀ v ∈ ([] : List V), p v := fun v hv => by cases hv
theorem bl_cons {p : V → Prop} {x : V} {xs : List V} (h : p x) (t : ∀ v ∈ xs, p v) : ∀ v ∈ x :: xs, p v := fun v hv => by
  rcases List.mem_cons.mp hv with e | e
  · rw [e]
    exact h
  · exact t v e
theorem b_new {o : HO} {p : Addr} (L : LB K S l H) (hp : H p = none) : ∃ H', upd H p o = H' ∧ LB K S l H' ∧ Same H H' ∧ H' p = some o ∧ p ≠ S.a := ⟨_, rfl, L.new hp o, same_upd hp o, upd_same, L.ne_free hp⟩
end

/-! ### slices, comprehensions, objects: rules of general use -/
section
variable {σ : St} {H : Hp} {n b c : St → Hp → Prop} {r : VK} {Q : VK} {K : Frg} {a C dx : Addr} {fs : List (Str × V)} {f : Str} {v : V}
theorem r_fsetK {R : Hp → Prop} {fs' : List (Str × V)} (h : H a = some (.ins C dx fs)) (cl : Cls K C) (na : NoAttr K C f) (hl : fs.length < 1000) (e : putF f v fs = fs') (q : ∀ H', H' a = some (.ins C dx fs') → (∀ b, b ≠ a → H' b = H b) → R H') :
    ∃ a' C dx fs, V.ref a = .ref a' ∧ H a' = some (.ins C dx fs) ∧ Cls K C ∧ NoAttr K C f ∧ fs.length < 1000 ∧ R (upd H a' (.ins C dx (putF f v fs))) := r_fset h cl na hl e (q _ upd_same fun _ hb => upd_ne hb)
theorem r_appK {p : Addr} {xs : List V} {y : V} (h : H p = some (.lst xs)) (hl : xs.length < sizeLine) (q : ∀ H', H' p = some (.lst (xs ++ [y])) → (∀ b, b ≠ p → H' b = H b) → Q .non H') : rAppend (.ref p) [y] H Q := r_app h hl (q _ upd_same fun _ hb => upd_ne hb)
theorem r_gfldV {R : St → Hp → Prop} {fs' : List (Str × V)} {k : Nat} (ek : σ[k]? = some (some (.ref a))) (h : H a = some (.ins C dx fs)) (cl : Cls K C) (na : NoAttr K C f) (hl : fs.length < 1000) (e : putF f v fs = fs') (q : ∀ H', H' a = some (.ins C dx fs') → (∀ b, b ≠ a → H' b = H b) → R σ H') : gFld K (tVar k) f v σ H R :=
  ⟨_, ek, a, C, dx, fs, rfl, h, cl, na, hl, by rw [e]; exact q _ upd_same fun _ hb => upd_ne hb⟩
end
def But (a l : Addr) (H H' : Hp) : Prop := ∀ b u, b ≠ a → b ≠ l → H b = some u → H' b = some u
theorem map_snoc (ps : List Int) (x : Int) : ps.map V.int ++ [V.int x] = (ps ++ [x]).map V.int := by simp
theorem dp_tup {K : Frg} {H : Hp} {v : V} {ds : List PyData} (h : Dp K H v (.tuple ds)) : ∃ a xs, v = .ref a ∧ SqT K H a xs ∧ DpAll K H xs ds := by
  cases h
  exact ⟨_, _, rfl, by assumption, by assumption⟩
theorem dp_get {K : Frg} {H : Hp} : ∀ {xs : List V} {ds : List PyData} {i : Nat} {x : V}, DpAll K H xs ds → xs[i]? = some x → ∃ d, ds[i]? = some d ∧ Dp K H x d
  | [], _, _, _, _, e => by cases e
  | x :: xs, _, 0, _, .cons h t, e => by
    cases e
    exact ⟨_, rfl, h⟩
  | x :: xs, _, i + 1, _, .cons h t, e => by
    obtain ⟨d, e1, h1⟩ := dp_get (i := i) t e
    exact ⟨d, e1, h1⟩
theorem dp_len {K : Frg} {H : Hp} : ∀ {xs : List V} {ds : List PyData}, DpAll K H xs ds → xs.length = ds.length
  | [], _, .nil => rfl
  | _ :: _, _, .cons _ t => congrArg (· + 1) (dp_len t)
theorem dp_ints {K : Frg} {H : Hp} : ∀ {xs : List V} (ns : List Int), DpAll K H xs (ns.map PyData.int) → xs = ns.map V.int
  | _, [], h => by
    cases h
    rfl
  | _, n :: ns, h => by
    cases h with
    | cons h t =>
      cases h
      rw [dp_ints ns t]
      rfl
theorem dpa_ints {K : Frg} {H : Hp} : ∀ (ns : List Int), DpAll K H (ns.map V.int) (ns.map PyData.int)
  | [] => .nil
  | n :: ns => .cons (.int n) (dpa_ints ns)
theorem shaped_ints (ns : List Int) : SeqAt.shaped (.list (ns.map PyData.int)) = true := PySem.W.ke_shaped_ints ns
theorem ints_get {cs : List Int} {i : Nat} {x : V} (e : (cs.map V.int)[i]? = some x) : ∃ c, cs[i]? = some c ∧ x = .int c ∧ cs.take (i + 1) = cs.take i ++ [c] := by
  rw [List.getElem?_map] at e
  obtain ⟨c, h, rfl⟩ := Option.map_eq_some_iff.mp e
  refine ⟨c, h, rfl, ?_⟩
  rw [List.take_succ, h]
  rfl
theorem ints_step {cs : List Int} {i : Nat} {c : Int} (h : cs[i]? = some c) : cs.take (i + 1) = cs.take i ++ [c] := by
  rw [List.take_succ, h]
  rfl
/-- the state stays when a place changes that was free at an earlier heap -/
theorem LS.away {K : PySem.W.Frag} {S : SC} {H1 H' : Hp} (L1 : LS K S H1) {D : Addr} (hD : H1 D = none) (L : LS K S H') (o : HO) : LS K S (upd H' D o) := by
  obtain ⟨⟨k, l, f, e⟩, h2, h3, h4, h5⟩ := L1
  obtain ⟨⟨k', l', f', e'⟩, h2', _, _, h5'⟩ := L
  have n : ∀ {b : Addr} {u : HO}, H1 b = some u → b ≠ D := fun h z => by
    rw [z, hD] at h
    cases h
  refine ⟨⟨k', l', f', (upd_ne (n e)).trans e'⟩, (upd_ne (n h2)).trans h2', h3, h4, ?_⟩
  rcases h5 with (h | ⟨u, h⟩) | h
  · exact seq_upd h5' (n h)
  · exact seq_upd h5' (n h)
  · exact .inr h
theorem r_sl {σ : St} {H : Hp} {Q : VK} {r : V → Option Int → Option Int → Hp → VK → Prop} {te : TE} {tl th : TO} (h : te σ H fun x H1 => tl σ H1 fun l H2 => th σ H2 fun u H3 => r x l u H3 Q) : tSl r te tl th σ H Q := h
theorem r_part {σ : St} {H : Hp} {t : TE} {Q : Option Int → Hp → Prop} (h : t σ H fun x H1 => ∃ i, x = .int i ∧ Q (some i) H1) : tPart t σ H Q := h
theorem r_some {i : Int} {Q : Option Int → Prop} (h : Q (some i)) : ∃ j, V.int i = .int j ∧ Q (some j) := ⟨i, rfl, h⟩
theorem r_nopart {σ : St} {H : Hp} {Q : Option Int → Hp → Prop} (h : Q none H) : tNoPart σ H Q := h
theorem r_slL {K : PySem.W.Frag} {p : Addr} {xs : List V} {lo hi : Option Int} {H : Hp} {Q : VK} (hs : SqL K H p xs) (h : ∀ q, H q = none → Q (.ref q) (upd H q (.lst (cutV xs lo hi)))) : rSlL K (.ref p) lo hi H Q := ⟨p, xs, rfl, hs, h⟩
theorem cut_tl {v : V} {xs : List V} : cutV (v :: xs) (some 1) none = xs := by
  have e : HT.sIx (v :: xs).length 0 (some 1) = 1 := (HT.sIx_nat (v :: xs).length 0 1).trans (by show min 1 (xs.length + 1) = 1; omega)
  unfold cutV
  rw [e, HT.sIx_none]
  show xs.take (xs.length + 1 - 1) = xs
  simp
theorem r_min2 {σ : St} {H : Hp} {Q : VK} {K : PySem.W.Frag} {p : Addr} {x y : Int} (hs : H p = some (.lst [.int x, .int y])) (h : Q (.int (min x y)) H) : rMin K [.ref p] H Q := by
  refine ⟨p, [x, y], rfl, SqL.of hs, by show 0 < 2; decide, fun m hm hle => ?_⟩
  have h1 := hle x (by simp)
  have h2 := hle y (by simp)
  have e : m = min x y := by
    rcases List.mem_cons.mp hm with e | e
    · omega
    · rcases List.mem_cons.mp e with e | e
      · omega
      · cases e
  rw [e]
  exact h
theorem at0 {v : V} {xs : List V} : atI (v :: xs) 0 = some v := atI_nat (xs := v :: xs) (j := 0) rfl
theorem cut_ints (zs : List Int) (lo hi : Option Int) : ∃ ws : List Int, cutV (zs.map V.int) lo hi = ws.map V.int ∧ (∀ x ∈ ws, x ∈ zs) ∧ ws.length ≤ zs.length := by
  refine ⟨(zs.drop (HT.sIx (zs.map V.int).length 0 lo)).take (HT.sIx (zs.map V.int).length (zs.map V.int).length hi - HT.sIx (zs.map V.int).length 0 lo), ?_, ?_, ?_⟩
  · unfold cutV
    rw [List.map_take, List.map_drop]
  · intro x hx
    exact List.mem_of_mem_drop (List.mem_of_mem_take hx)
  · rw [List.length_take, List.length_drop]
    omega
/-- a slice of a row of numbers in a slot -/
theorem d_cut {σ : St} {H : Hp} {Q : VK} {K : PySem.W.Frag} {k : Nat} {o : Addr} {zs : List Int} {tl th : TO} (lo hi : Option Int) (e : σ[k]? = some (some (.ref o))) (g : H o = some (.lst (zs.map V.int))) (hl : ∀ R : Option Int → Hp → Prop, R lo H → tl σ H R) (hh : ∀ R : Option Int → Hp → Prop, R hi H → th σ H R)
    (h : ∀ (q : Addr) (ws : List Int), H q = none → (∀ x ∈ ws, x ∈ zs) → ws.length ≤ zs.length → Q (.ref q) (upd H q (.lst (ws.map V.int)))) : tSl (rSlL K) (tVar k) tl th σ H Q := by
  refine r_sl ⟨_, e, hl _ (hh _ ?_)⟩
  obtain ⟨ws, e1, e2, e3⟩ := cut_ints zs lo hi
  refine r_slL (SqL.of g) fun q nq => ?_
  rw [e1]
  exact h q ws nq e2 e3
theorem cat_ints (a b : List Int) : a.map V.int ++ b.map V.int = (a ++ b).map V.int := by simp
theorem LS.but {K : PySem.W.Frag} {S : SC} {H1 H H' : Hp} (L1 : LS K S H1) {m l : Addr} (hm : H1 m = none) (hl : H1 l = none) (L : LS K S H) (b : But m l H H') : LS K S H' := by
  obtain ⟨⟨k, l', f, e⟩, h2, h3, h4, h5⟩ := L1
  obtain ⟨⟨k', l'', f', e'⟩, h2', _, _, h5'⟩ := L
  have n1 : ∀ {b : Addr} {u : HO}, H1 b = some u → b ≠ m := fun h z => by
    rw [z, hm] at h
    cases h
  have n2 : ∀ {b : Addr} {u : HO}, H1 b = some u → b ≠ l := fun h z => by
    rw [z, hl] at h
    cases h
  refine ⟨⟨k', l'', f', b _ _ (n1 e) (n2 e) e'⟩, b _ _ (n1 h2) (n2 h2) h2', h3, h4, ?_⟩
  have go : S.sl ≠ m → S.sl ≠ l → SqL K H' S.sl (S.ns.map V.int) := fun q1 q2 => by
    rcases h5' with (h | ⟨u, h⟩) | h
    · exact .inl (.inl (b _ _ q1 q2 h))
    · exact .inl (.inr ⟨u, b _ _ q1 q2 h⟩)
    · exact .inr h
  rcases h5 with (h | ⟨u, h⟩) | h
  · exact go (n1 h) (n2 h)
  · exact go (n1 h) (n2 h)
  · exact .inr h
theorem But.refl (a l : Addr) (H : Hp) : But a l H H := fun _ _ _ _ z => z
theorem But.trans {a l : Addr} {H H1 H2 : Hp} (x : But a l H H1) (y : But a l H1 H2) : But a l H H2 := fun b u p q z => y b u p q (x b u p q z)
theorem But.same {a l : Addr} {H H1 : Hp} (x : Same H H1) : But a l H H1 := fun b u _ _ z => x b u z
theorem cut_to {zs : List Int} {d : Nat} (h : d ≤ zs.length) : cutV (zs.map V.int) none (some (d : Nat)) = (zs.take d).map V.int := by
  unfold cutV
  rw [HT.sIx_nat, HT.sIx_none, List.length_map, Nat.min_eq_left h, List.drop_zero, Nat.sub_zero, List.map_take]
theorem r_lcL {σ : St} {H : Hp} {Q : VK} {K : PySem.W.Frag} {tl : TE} {g : TG} {tt : TT} {te : TE} {vs : List Nat} (h : tl σ H fun x H1 => ∃ a, x = .ref a ∧ (∃ xs, SqL K H1 a xs) ∧ ∀ D, H1 D = none → ∃ W : Nat → Nat → Hp → Prop, (∃ m, W 0 m (upd H1 D (.lst []))) ∧ ∀ i m H, W i m H →
  ((Itl K a).stop i H ∧ Q (.ref D) H) ∨ ((Itl K a).go i H ∧ ∃ Nx : Hp → Prop, (∀ H', Nx H' → ∃ m', m' < m ∧ W (i + 1) m' H') ∧ ∀ x H', (Itl K a).yld i H x H' → g x (wipe σ vs) H' fun σ2 H2 => wipe σ2 vs = wipe σ vs ∧ tt σ2 H2 fun b H3 =>
    if b = true then te σ2 H3 fun y H4 => ∃ acc, H4 D = some (.lst acc) ∧ acc.length < sizeLine ∧ Nx (upd H4 D (.lst (acc ++ [y]))) else Nx H3)) : tLc (iList K tl) g tt te vs σ H Q := h
/-- a for over range(j), what stands behind a break known -/
theorem r_turnsB {σ : St} {H : Hp} {n : St → Hp → Prop} {r : VK} {j : Int} {g : TG} {tb : TS} (h1 : -(2 ^ 62) ≤ j) (h2 : j < 2 ^ 62) (M : St → Hp → Prop) (hM : ∀ σ H, M σ H → n σ H) (Pv : Nat → St → Hp → Prop) (h0 : Pv 0 σ H)
    (hs : (∀ σ H, M σ H → n σ H) → ∀ (i : Nat) σ H, (i : Int) < j → Pv i σ H → g (.int (i : Int)) σ H fun σ2 H2 => tb ⟨Pv (i + 1), r, n, Pv (i + 1)⟩ σ2 H2) (hd : ∀ σ H, Pv j.toNat σ H → M σ H) :
    -(2 ^ 62) ≤ j ∧ j < 2 ^ 62 ∧ ∃ W : Nat → Nat → St → Hp → Prop, (∃ m, W 0 m σ H) ∧ ∀ i m σ H, W i m σ H →
    ((Itr 0 j.toNat).stop i H ∧ n σ H) ∨ ((Itr 0 j.toNat).go i H ∧ ∃ N : St → Hp → Prop, (∀ σ' H', N σ' H' → ∃ m', m' < m ∧ W (i + 1) m' σ' H') ∧ ∀ x H', (Itr 0 j.toNat).yld i H x H' → g x σ H' fun σ2 H2 => tb ⟨N, r, n, N⟩ σ2 H2) :=
  r_turns h1 h2 Pv h0 (hs hM) fun σ H p => hM σ H (hd σ H p)
theorem at_end (a : List Int) (v : Int) : atI ((a ++ [v]).map V.int) ((((a ++ [v]).length : Nat) : Int) - 1) = some (.int v) := by
  rw [show (((a ++ [v]).length : Nat) : Int) - 1 = ((a.length : Nat) : Int) by rw [List.length_append]; show ((a.length + 1 : Nat) : Int) - 1 = _; omega]
  refine atI_nat ?_
  rw [List.getElem?_map, List.getElem?_append_right (Nat.le_refl _), Nat.sub_self]
  rfl
theorem r_lc0 {σ : St} {H : Hp} {Q : VK} {ta : TA} {g : TG} {tt : TT} {te : TE} {vs : List Nat} (h : ta σ H fun ws H1 => ∃ j : Int, ws = [.int j] ∧ -(2 ^ 62) ≤ j ∧ j < 2 ^ 62 ∧ ∀ D, H1 D = none → ∃ W : Nat → Nat → Hp → Prop, (∃ m, W 0 m (upd H1 D (.lst []))) ∧ ∀ i m H, W i m H →
  ((Itr 0 j.toNat).stop i H ∧ Q (.ref D) H) ∨ ((Itr 0 j.toNat).go i H ∧ ∃ Nx : Hp → Prop, (∀ H', Nx H' → ∃ m', m' < m ∧ W (i + 1) m' H') ∧ ∀ x H', (Itr 0 j.toNat).yld i H x H' → g x (wipe σ vs) H' fun σ2 H2 => wipe σ2 vs = wipe σ vs ∧ tt σ2 H2 fun b H3 =>
    if b = true then te σ2 H3 fun y H4 => ∃ acc, H4 D = some (.lst acc) ∧ acc.length < sizeLine ∧ Nx (upd H4 D (.lst (acc ++ [y]))) else Nx H3)) : tLc (iRng1 ta) g tt te vs σ H Q := h

/-! ### more rules of general use -/
theorem r_lcT {σ : St} {H : Hp} {Q : VK} {K : PySem.W.Frag} {tl : TE} {g : TG} {tt : TT} {te : TE} {vs : List Nat} (h : tl σ H fun x H1 => ∃ a, x = .ref a ∧ (∃ xs, SqT K H1 a xs) ∧ ∀ D, H1 D = none → ∃ W : Nat → Nat → Hp → Prop, (∃ m, W 0 m (upd H1 D (.lst []))) ∧ ∀ i m H, W i m H →
  ((Itt K a).stop i H ∧ Q (.ref D) H) ∨ ((Itt K a).go i H ∧ ∃ Nx : Hp → Prop, (∀ H', Nx H' → ∃ m', m' < m ∧ W (i + 1) m' H') ∧ ∀ x H', (Itt K a).yld i H x H' → g x (wipe σ vs) H' fun σ2 H2 => wipe σ2 vs = wipe σ vs ∧ tt σ2 H2 fun b H3 =>
    if b = true then te σ2 H3 fun y H4 => ∃ acc, H4 D = some (.lst acc) ∧ acc.length < sizeLine ∧ Nx (upd H4 D (.lst (acc ++ [y]))) else Nx H3)) : tLc (iTup K tl) g tt te vs σ H Q := h
theorem r_gunl {σ : St} {H : Hp} {K : PySem.W.Frag} {p : Addr} {xs : List V} {n : Nat} {t : TGs} {R : St → Hp → Prop} (hs : SqL K H p xs) (hl : xs.length = n) (h : t xs σ H R) : gUnl K n t (.ref p) σ H R := ⟨p, xs, rfl, hs, hl, h⟩
theorem cut_from {zs : List Int} {d : Nat} : cutV (zs.map V.int) (some (d : Nat)) none = (zs.drop d).map V.int := by
  unfold cutV
  rw [HT.sIx_nat, HT.sIx_none, List.length_map]
  by_cases h : d ≤ zs.length
  · rw [Nat.min_eq_left h, List.take_of_length_le (by rw [List.length_drop, List.length_map]; omega), List.map_drop]
  · rw [Nat.min_eq_right (by omega), List.drop_of_length_le (by rw [List.length_map]; omega), List.drop_of_length_le (by omega)]
    simp
theorem cut_mid {zs : List Int} {d e : Nat} (h : d ≤ e) : cutV (zs.map V.int) (some (d : Nat)) (some (e : Nat)) = ((zs.drop d).take (e - d)).map V.int := by
  unfold cutV
  rw [HT.sIx_nat, HT.sIx_nat, List.length_map]
  by_cases h1 : e ≤ zs.length
  · rw [Nat.min_eq_left h1, Nat.min_eq_left (by omega), List.map_take, List.map_drop]
  · by_cases h2 : d ≤ zs.length
    · rw [Nat.min_eq_right (by omega), Nat.min_eq_left h2, List.map_take, List.map_drop, List.take_of_length_le (by rw [List.length_drop, List.length_map]; omega), List.take_of_length_le (by rw [List.length_drop, List.length_map]; omega)]
    · rw [Nat.min_eq_right (by omega), Nat.min_eq_right (by omega), Nat.sub_self, List.take_zero, List.drop_of_length_le (l := zs) (by omega)]
      simp
theorem cut_to' {zs : List Int} {d : Nat} : cutV (zs.map V.int) none (some (d : Nat)) = (zs.take d).map V.int := by
  unfold cutV
  rw [HT.sIx_nat, HT.sIx_none, List.length_map, List.drop_zero, Nat.sub_zero, List.map_take]
  by_cases h : d ≤ zs.length
  · rw [Nat.min_eq_left h]
  · rw [Nat.min_eq_right (by omega), List.take_of_length_le (by rw [List.length_map]; omega), List.take_of_length_le (by rw [List.length_map]; omega)]
/-- list + list, both of integers -/
theorem r_catI {a b : Addr} {xs ys : List Int} {H : Hp} {Q : VK} (h1 : H a = some (.lst (xs.map V.int))) (h2 : H b = some (.lst (ys.map V.int))) (hl : xs.length + ys.length ≤ 1000) (h : ∀ p H', H p = none → H' p = some (.lst ((xs ++ ys).map V.int)) → Same H H' → Q (.ref p) H') : rCat (.ref a) (.ref b) H Q :=
  ⟨a, b, _, _, rfl, rfl, h1, h2, Nat.le_of_lt (small1000 (by rw [List.length_map, List.length_map]; exact hl)), fun p hp => h p _ hp (by rw [upd_same, cat_ints]) (same_upd hp _)⟩
theorem r_slI {K : PySem.W.Frag} {p : Addr} {xs ys : List Int} {lo hi : Option Int} {H : Hp} {Q : VK} (hs : H p = some (.lst (xs.map V.int))) (e : cutV (xs.map V.int) lo hi = ys.map V.int) (h : ∀ q H', H q = none → H' q = some (.lst (ys.map V.int)) → Same H H' → Q (.ref q) H') : rSlL K (.ref p) lo hi H Q :=
  r_slL (SqL.of hs) fun q hq => h q _ hq (by rw [upd_same, e]) (same_upd hq _)
/-- a new list or tuple -/
theorem r_nw {o : HO} {R : Addr → Hp → Prop} {c : Prop} {H : Hp} (hc : c) (h : ∀ (p : Addr) (H' : Hp), H p = none → H' p = some o → Same H H' → R p H') : c ∧ ∀ p, H p = none → R p (upd H p o) :=
  ⟨hc, fun p hp => h p _ hp upd_same (same_upd hp o)⟩
theorem r_nwI {zs : List Int} {R : Addr → Hp → Prop} {c : Prop} {H : Hp} (hc : c) (h : ∀ (p : Addr) (H' : Hp), H p = none → H' p = some (.lst (zs.map V.int)) → Same H H' → R p H') : c ∧ ∀ p, H p = none → R p (upd H p (.lst (zs.map V.int))) :=
  r_nw hc h
theorem same_tup {K : PySem.W.Frag} {H H' : Hp} {a : Addr} {xs : List V} (e : Same H H') (h : SqT K H a xs) : SqT K H' a xs := by
  rcases h with (h | ⟨o, h⟩) | h
  · exact .inl (.inl (e _ _ h))
  · exact .inl (.inr ⟨o, e _ _ h⟩)
  · exact .inr h
theorem same_seq {K : PySem.W.Frag} {H H' : Hp} {a : Addr} {xs : List V} (e : Same H H') (h : SqL K H a xs ∨ SqT K H a xs) : SqL K H' a xs ∨ SqT K H' a xs := h.elim (fun q => .inl (e.seq q)) fun q => .inr (same_tup e q)
theorem same_away {H1 H' : Hp} {D : Addr} {o : HO} (s : Same H1 H') (n : H1 D = none) : Same H1 (upd H' D o) := fun b u h => by
  rw [upd_ne (ne_of_none h n)]
  exact s b u h
theorem rep1 (n : Nat) (z : Int) : (List.replicate n [V.int z]).flatten = (List.replicate n z).map V.int := by
  induction n with
  | zero => rfl
  | succ n ih => rw [List.replicate_succ, List.replicate_succ, List.flatten_cons, ih]; rfl
/-- [z] * k -/
theorem r_repI {a : Addr} {z k : Int} {H : Hp} {Q : VK} (h1 : H a = some (.lst [.int z])) (h0 : -1000 ≤ k) (hk : k ≤ 1000) (h : ∀ p H', H p = none → H' p = some (.lst ((List.replicate k.toNat z).map V.int)) → Same H H' → Q (.ref p) H') : rRep (.ref a) (.int k) H Q :=
  ⟨a, k, [.int z], rfl, rfl, h1, by omega, by omega, Nat.le_of_lt (small1000 (by show 1 * _ ≤ 1000; omega)), fun p hp => h p _ hp (by rw [upd_same, rep1]) (same_upd hp _)⟩
def sp0 (f : Hp → VK → XK → Prop) : Sp := fun vs H Q E => vs = [] ∧ f H Q E
theorem len0 {f} (vs : List V) (H : Hp) (Q : VK) (E : XK) (h : sp0 f vs H Q E) : vs.length = 0 := by
  obtain ⟨rfl, _⟩ := h
  rfl
theorem ffl {i : Int} (h1 : -(2 ^ 62) ≤ i) (h2 : i < 2 ^ 62) : Builtin.Range.rangeFitsLong i = true := by
  unfold Builtin.Range.rangeFitsLong
  rw [decide_eq_true (by omega), decide_eq_true (by omega)]
  rfl
theorem rgP (n c k : Nat) (hn : n < 2 ^ 60) (h0 : 0 < c) (hc : c < 1000) (hk : k = (n + (c - 1)) / c) : RgC 0 (n : Nat) (c : Nat) k := by
  have hkn : k ≤ n + (c - 1) := by
    rw [hk]
    exact Nat.div_le_self _ _
  have e : Builtin.Range.rangeSize 0 (n : Nat) (c : Nat) = ((k : Nat) : Int) := by
    unfold Builtin.Range.rangeSize
    rw [if_pos (by omega)]
    by_cases z : n = 0
    · subst z
      rw [if_neg (by omega)]
      have : k = 0 := by rw [hk, Nat.zero_add]; exact Nat.div_eq_of_lt (by omega)
      omega
    · rw [if_pos (by omega)]
      have e1 : ((n : Nat) : Int) - 0 - 1 = ((n - 1 : Nat) : Int) := by omega
      rw [e1]
      have e2 : (n + (c - 1)) / c = (n - 1) / c + 1 := by
        rw [show n + (c - 1) = n - 1 + c by omega, Nat.add_div_right _ h0]
      rw [hk, e2]
      simp
  have hs : Builtin.Range.small 0 (n : Nat) (c : Nat) = true := by
    unfold Builtin.Range.small
    rw [e, ffl (by decide) (by decide), ffl (by omega) (by omega), ffl (by omega) (by omega), ffl (by omega) (by omega), if_pos (by omega), ffl (by omega) (by omega)]
    simp
  exact ⟨by omega, by omega, hs, e⟩
/-- list.extend -/
theorem r_extI {a b : Addr} {xs ys : List Int} {H : Hp} {Q : VK} (h1 : H a = some (.lst (xs.map V.int))) (h2 : H b = some (.lst (ys.map V.int))) (hl : xs.length + ys.length ≤ 4000) (h : ∀ H', H' a = some (.lst ((xs ++ ys).map V.int)) → (∀ b o, b ≠ a → H b = some o → H' b = some o) → (∀ H1, Same H1 H → H1 a = none → Same H1 H') → Q .non H') : rExtend (.ref a) [.ref b] H Q :=
  ⟨a, b, _, _, rfl, rfl, h1, h2, Nat.le_trans (by rw [List.length_map, List.length_map]; exact hl) (by decide : 4000 ≤ sizeLine), h _ (by rw [upd_same, cat_ints]) (fun b o n e => by rw [upd_ne n]; exact e) fun H1 s n => same_away s n⟩
/-- a slice of a row, list or tuple -/
theorem r_slSeq {K : PySem.W.Frag} {p : Addr} {xs : List Int} {d e : Nat} {H : Hp} {Q : VK} (hde : d ≤ e) (hs : SqL K H p (xs.map V.int) ∨ SqT K H p (xs.map V.int)) (h : ∀ q H', SqL K H' q (((xs.drop d).take (e - d)).map V.int) ∨ SqT K H' q (((xs.drop d).take (e - d)).map V.int) → Same H H' → Q (.ref q) H') : rSlL K (.ref p) (some (d : Nat)) (some (e : Nat)) H Q ∨ rSlA K (.ref p) (some (d : Nat)) (some (e : Nat)) H Q := by
  rcases hs with hs | hs
  · refine .inl (r_slL hs fun q hq => h q _ (.inl (SqL.of ?_)) (same_upd hq _))
    rw [upd_same, cut_mid hde]
  · refine .inr ⟨p, _, rfl, hs, fun hw => ?_, fun _ q hq => ?_⟩
    · refine h p H (.inr ?_) (Same.refl H)
      obtain ⟨w1, w2⟩ := hw
      rw [HT.sIx_nat, List.length_map] at w1 w2
      by_cases c : d = 0
      · subst c
        rw [List.drop_zero, List.take_of_length_le (by omega)]
        exact hs
      · have e0 : xs.length = 0 := by omega
        have e1 : xs = [] := List.length_eq_zero_iff.mp e0
        subst e1
        simpa using hs
    · refine h q _ (.inr (SqT.of ?_)) (same_upd hq _)
      rw [upd_same, cut_mid hde]
theorem pe_c0 {X : Cx} {k j : Nat} {x : Str} {sp : Sp} {dvs : List V} {p pos : Pos} (c : Cal X.prog X.w X.K X.mg X.base k x sp dvs) (hr : Room j X.A) (hk : k ≤ j) (hg : Gl X x) (hdb : (x == ("__debug__" : Str)) = false := by decide) : PE X (.Call (.Name x p) [] [] pos) (tCall sp dvs C8.E0 tNil) := by
  obtain ⟨f, fd, ps, ds, F, hm, hk', b, d⟩ := c.ex
  exact pe_call0 F (hr.mono hk) hg hm hk' b d pass0 hdb

theorem eqv_ints (a b : List Int) : PyData.eqv (.list (a.map PyData.int)) (.list (b.map PyData.int)) = decide (a = b) := PySem.W.ked_eqvAll a b
/-- two rows of integers compared -/
theorem r_eqIL {K : PySem.W.Frag} {p q : Addr} {a b : List Int} {H : Hp} {Q : VK} (h1 : SqL K H p (a.map V.int)) (h2 : SqL K H q (b.map V.int)) (h : Q (.bl (decide (a = b))) H) : rEqD K (.ref p) (.ref q) H Q :=
  r_eqD (.lst h1 (dpa_ints _)) (.lst h2 (dpa_ints _)) (shaped_ints _) (shaped_ints _) (by rw [eqv_ints]; exact h)
theorem r_neIL {K : PySem.W.Frag} {p q : Addr} {a b : List Int} {H : Hp} {Q : VK} (h1 : SqL K H p (a.map V.int)) (h2 : SqL K H q (b.map V.int)) (h : Q (.bl (!decide (a = b))) H) : rNeD K (.ref p) (.ref q) H Q :=
  r_neD (.lst h1 (dpa_ints _)) (.lst h2 (dpa_ints _)) (shaped_ints _) (shaped_ints _) (by rw [eqv_ints]; exact h)
/-- a for over a text -/
theorem r_eachS {σ : St} {H : Hp} {n : St → Hp → Prop} {r : VK} {g : TG} {tb : TS} {z : Str} (Pv : Nat → St → Hp → Prop) (h0 : Pv 0 σ H)
    (hs : ∀ (i : Nat) (c : Nat) σ H, z.cps[i]? = some c → Pv i σ H → g (.str ⟨#[c]⟩) σ H fun σ2 H2 => tb ⟨Pv (i + 1), r, n, Pv (i + 1)⟩ σ2 H2) (hd : ∀ σ H, Pv z.cps.size σ H → n σ H) :
    ∃ W : Nat → Nat → St → Hp → Prop, (∃ m, W 0 m σ H) ∧ ∀ i m σ H, W i m σ H →
    ((Its z).stop i H ∧ n σ H) ∨ ((Its z).go i H ∧ ∃ N : St → Hp → Prop, (∀ σ' H', N σ' H' → ∃ m', m' < m ∧ W (i + 1) m' σ' H') ∧ ∀ x H', (Its z).yld i H x H' → g x σ H' fun σ2 H2 => tb ⟨N, r, n, N⟩ σ2 H2) := by
  refine r_each z.cps.size Pv h0 (fun i σ H hi p => ⟨hi, ?_⟩) fun σ H p => ⟨Nat.le_refl _, hd σ H p⟩
  rintro x _ ⟨rfl, c, hc, rfl⟩
  exact hs i c σ _ hc p
theorem r_itS {σ : St} {H : Hp} {te : TE} {R : It → Hp → Prop} (h : te σ H fun v H1 => ∃ x, v = .str x ∧ R (Its x) H1) : iStr te σ H R := h
def rLenK (K : Frg) : List V → Hp → VK → Prop := fun xs H Q => ∃ p ys, xs = [.ref p] ∧ (SqL K H p ys ∨ SqT K H p ys) ∧ Q (.int ys.length) H
def rListK (K : Frg) : List V → Hp → VK → Prop := fun xs H Q => ∃ p ys, xs = [.ref p] ∧ (SqL K H p ys ∨ SqT K H p ys) ∧ ∀ l, H l = none → Q (.ref l) (upd H l (.lst ys))
def rTupleK (K : Frg) : List V → Hp → VK → Prop := fun xs H Q => ∃ p ys, xs = [.ref p] ∧ ((SqL K H p ys ∧ ∀ l, H l = none → Q (.ref l) (upd H l (.tup ys))) ∨ (SqT K H p ys ∧ Q (.ref p) H))
theorem small4k {n : Nat} (h : n ≤ 4000) : n < sizeLine := Nat.lt_of_le_of_lt h (by decide)
theorem r_ifTF {b : Bool} {A B : Prop} (h1 : b = true → A) (h2 : b = false → B) : if b = true then A else B := by
  cases b with
  | true => exact h1 rfl
  | false => exact h2 rfl

/-! ### sorted: pairs of a tuple of integers and something, no two with the same integers -/
section
open PyProof.Rows PySem.W PySem.Calls
theorem lexLt_irr : ∀ a : List Int, HT.lexLt a a = false
  | [] => rfl
  | x :: xs => by
    rw [HT.lexLt_cons, if_pos rfl]
    exact lexLt_irr xs
theorem lexLt_asym : ∀ a b : List Int, HT.lexLt a b = true → HT.lexLt b a = false
  | [], [], h => by cases h
  | [], y :: ys, _ => rfl
  | x :: xs, [], h => by cases h
  | x :: xs, y :: ys, h => by
    rw [HT.lexLt_cons] at h ⊢
    by_cases e : x = y
    · rw [if_pos e] at h
      rw [if_pos e.symm]
      exact lexLt_asym xs ys h
    · rw [if_neg e] at h
      rw [if_neg (fun q => e q.symm)]
      have := of_decide_eq_true h
      exact decide_eq_false (by omega)
theorem lexLt_ntr : ∀ a b c : List Int, HT.lexLt b a = false → HT.lexLt c b = false → HT.lexLt c a = false
  | [], _, [], _, _ => rfl
  | [], _, z :: zs, _, _ => rfl
  | x :: xs, [], _, h, _ => by cases h
  | x :: xs, y :: ys, [], _, h => by cases h
  | x :: xs, y :: ys, z :: zs, h1, h2 => by
    rw [HT.lexLt_cons] at h1 h2 ⊢
    by_cases e1 : y = x
    · subst e1
      rw [if_pos rfl] at h1
      by_cases e2 : z = y
      · subst e2
        rw [if_pos rfl] at h2 ⊢
        exact lexLt_ntr xs ys zs h1 h2
      · rw [if_neg e2] at h2 ⊢
        exact h2
    · rw [if_neg e1] at h1
      have h1 := of_decide_eq_false h1
      by_cases e2 : z = y
      · subst e2
        rw [if_neg e1]
        exact decide_eq_false h1
      · rw [if_neg e2] at h2
        have h2 := of_decide_eq_false h2
        rw [if_neg (by omega)]
        exact decide_eq_false (by omega)
theorem lexLt_tri : ∀ a b : List Int, HT.lexLt a b = false → HT.lexLt b a = false → a = b
  | [], [], _, _ => rfl
  | [], y :: ys, h, _ => by cases h
  | x :: xs, [], _, h => by cases h
  | x :: xs, y :: ys, h1, h2 => by
    rw [HT.lexLt_cons] at h1 h2
    by_cases e : x = y
    · subst e
      rw [if_pos rfl] at h1 h2
      rw [lexLt_tri xs ys h1 h2]
    · rw [if_neg e] at h1
      rw [if_neg (fun q => e q.symm)] at h2
      have h1 := of_decide_eq_false h1
      have h2 := of_decide_eq_false h2
      omega
theorem lexLt_tr {a b c : List Int} (h1 : HT.lexLt a b = true) (h2 : HT.lexLt b c = true) : HT.lexLt a c = true := by
  cases h : HT.lexLt a c with
  | true => rfl
  | false =>
    have q := lexLt_ntr c a b h (lexLt_asym _ _ h1)
    rw [q] at h2
    cases h2
theorem swo_key {α : Type} (k : α → List Int) : SrtO.Swo fun v u => HT.lexLt (k v) (k u) := ⟨fun x y h => lexLt_asym _ _ h, fun x y z h1 h2 => lexLt_ntr _ _ _ h1 h2⟩
/-- a tuple of these integers in a heap -/
def IsTI (h : Heap) (q : Addr) (ns : List Int) : Prop := ∃ (o : Obj) (its : List Value) (n : Nat), h.get? q = some o ∧ o.cls = .type "tuple" ∧ o.data = .seq its.toArray n ∧ IntsAre its ns
theorem IsTI.keeps {h h' : Heap} {q : Addr} {ns : List Int} (x : IsTI h q ns) (k : ∀ b o, h.get? b = some o → o.cls = .type "tuple" → h'.get? b = some o) : IsTI h' q ns := by
  obtain ⟨o, its, n, h1, h2, h3, h4⟩ := x
  exact ⟨o, its, n, k _ _ h1 h2, h2, h3, h4⟩
theorem readsAll_ints {h : Heap} : ∀ {its : List Value} {ns : List Int}, IntsAre its ns → ReadsAll h its (ns.map PyData.int) []
  | _, _, .nil => .nil
  | _, _, .cons n t r => .cons (.int n t) (readsAll_ints r)
theorem IsTI.reads {h : Heap} {q : Addr} {ns : List Int} (x : IsTI h q ns) : Reads h (.ref q) (.tuple (ns.map PyData.int)) [] := by
  obtain ⟨o, its, n, h1, h2, h3, h4⟩ := x
  exact .tuple h1 h2 h3 (by simpa using readsAll_ints h4)
theorem lay_ints : ∀ ns : List Int, PyData.canLayAll0 (ns.map PyData.int) = true
  | [] => rfl
  | n :: ns => by
    show (PyData.canLay0 (.int n) && PyData.canLayAll0 (ns.map PyData.int)) = true
    rw [lay_ints ns]
    rfl
theorem lay_kd (ns : List Int) : (PyData.tuple (ns.map PyData.int)).canLay0 = true := lay_ints ns
theorem depth_ints : ∀ ns : List Int, PyData.depthAll (ns.map PyData.int) = 0
  | [] => rfl
  | n :: ns => by
    have e := depth_ints ns
    simp [PyData.depthAll, PyData.depth, e]
theorem depth_kd (ns : List Int) : (PyData.tuple (ns.map PyData.int)).depth ≤ 1 := by
  have e := depth_ints ns
  simp [PyData.depth, e]
theorem eqv_kd (a b : List Int) : PyData.eqv (.tuple (a.map PyData.int)) (.tuple (b.map PyData.int)) = decide (a = b) := PySem.W.ked_eqvAll a b
variable {prog : Program} {w : World} {A : Around} {s : Shared}
theorem ti_eqAt {q q' : Addr} {a b : List Int} (h1 : IsTI s.heap q a) (h2 : IsTI s.heap q' b) (hu : A.units + 1 < cLine) : SeqAt.EqAt A s (.ref q) (.ref q') (decide (a = b)) := by
  have e := SeqAt.eqAt_reads _ _ A s _ _ _ _ h1.reads h2.reads (lay_kd a) (lay_kd b) (by
    have := depth_kd a
    have := Nat.min_le_left (PyData.tuple (a.map PyData.int)).depth (PyData.tuple (b.map PyData.int)).depth
    omega)
  rw [eqv_kd] at e
  exact e
theorem ti_lt {q q' : Addr} {a b : List Int} (h1 : IsTI s.heap q a) (h2 : IsTI s.heap q' b) (hu : A.units < cLine) {E : Value → Shared → Prop} {Q : Bool → Shared → Prop} (h : Q (HT.lexLt a b) s) : wpAny (model prog w) A (oneLt' false (.ref q) (.ref q')) Q E s := by
  obtain ⟨o1, i1, n1, a1, a2, a3, a4⟩ := h1
  obtain ⟨o2, i2, n2, b1, b2, b3, b4⟩ := h2
  refine PySem.W.kat_one _ _ (HT.lt_tupInts (items := i1.toArray) (items2 := i2.toArray) ⟨o1, a1, a2, n1, a3⟩ ⟨o2, b1, b2, n2, b3⟩ (by simpa using a4) (by simpa using b4) hu ?_)
  exact h
/-- such a pair -/
def IsEnt (h : Heap) (v : Value) (ns : List Int) : Prop := ∃ (a q u : Addr) (o : Obj) (n : Nat), v = .ref a ∧ h.get? a = some o ∧ o.cls = .type "tuple" ∧ o.data = .seq #[.ref q, .ref u] n ∧ IsTI h q ns
theorem IsEnt.keeps {h h' : Heap} {v : Value} {ns : List Int} (x : IsEnt h v ns) (k : ∀ b o, h.get? b = some o → o.cls = .type "tuple" → h'.get? b = some o) : IsEnt h' v ns := by
  obtain ⟨a, q, u, o, n, e, h1, h2, h3, h4⟩ := x
  exact ⟨a, q, u, o, n, e, k _ _ h1 h2, h2, h3, h4.keeps k⟩
theorem ents_firsts {h : Heap} {k : Value → List Int} : ∀ {vs : List Value}, (∀ v ∈ vs, IsEnt h v (k v)) → ∃ fs : List Value, PySem.W.KatTups h vs fs ∧ fs.length = vs.length ∧ ∀ f ∈ fs, ∃ q ns, f = Value.ref q ∧ IsTI h q ns
  | [], _ => ⟨[], PySem.W.KatTups.nil, rfl, fun _ hm => by simp at hm⟩
  | v :: vs, hp => by
    obtain ⟨fs, h1, h2, h3⟩ := ents_firsts (vs := vs) fun v' hm => hp v' (List.mem_cons_of_mem _ hm)
    obtain ⟨a, q, u, o, n, e, ho, hc, hd, ht⟩ := hp v (List.mem_cons_self ..)
    subst e
    refine ⟨.ref q :: fs, PySem.W.KatTups.cons ho hc hd rfl h1, by rw [List.length_cons, List.length_cons, h2], fun f hm => ?_⟩
    rcases List.mem_cons.mp hm with rfl | hm
    · exact ⟨q, _, rfl, ht⟩
    · exact h3 f hm
theorem ent_cmp {vs : List Value} {k : Value → List Int} (hu : A.units + 1 < cLine) (hp : ∀ v ∈ vs, IsEnt s.heap v (k v)) (hi : ∀ v ∈ vs, ∀ u ∈ vs, k v = k u → v = u) : SrtO.Cmp prog w A s (tuples' false) (fun p => p.1 ∈ vs) (SrtO.lt2 fun v u => HT.lexLt (k v) (k u)) := by
  intro p q hm hm'
  have h1 := hp _ hm
  have h2 := hp _ hm'
  have hij := hi _ hm _ hm'
  show wpAny (model prog w) A (keyLt' (tuples' false) p.1 q.1) (fun r s' => s' = s ∧ r = HT.lexLt (k p.1) (k q.1)) (fun _ _ => False) s
  generalize k p.1 = x at h1 hij ⊢
  generalize k q.1 = y at h2 hij ⊢
  obtain ⟨a, q1, u, o, n, e, ho, hc, hd, t1⟩ := h1
  obtain ⟨a', q2, u', o', n', e', ho', hc', hd', t2⟩ := h2
  rw [e, e'] at hij ⊢
  refine PySem.W.kat_lt ho hd ho' hd' ?_
  show PySem.W.KatLex prog w A false (decide (2 < 2)) _ [(.ref q1, .ref q2), (.ref u, .ref u')] 0 s
  refine PySem.W.kat_cons (ti_eqAt t1 t2 hu prog w _ _ ?_)
  refine PySem.W.kat_go (fun e1 => ?_) (fun e1 => ?_)
  · have ex : x = y := of_decide_eq_true e1
    have ea := hij ex
    have ea : a = a' := by
      injection ea
    subst ea
    have eo : o = o' := Option.some.inj (ho.symm.trans ho')
    subst eo
    rw [hd] at hd'
    have eu : u = u' := by
      injection hd' with e1 e2
      simp at e1
      exact e1.2
    subst eu
    refine PySem.W.kat_yes (PySem.W.kat_cons (SeqAt.EqAt.same _ prog w _ _ ?_))
    refine PySem.W.kat_go (fun e2 => ?_) (fun e2 => by cases e2)
    refine PySem.W.kat_yes (PySem.W.kat_nil ⟨rfl, ?_⟩)
    rw [ex, lexLt_irr]
    rfl
  · exact PySem.W.kat_no (ti_lt t1 t2 (by omega) ⟨rfl, rfl⟩)
theorem ents_sortable {a : Addr} {vs : List Value} {k : Value → List Int} (hu : A.units + 1 < cLine) (h0 : 0 < vs.length) (hp : ∀ v ∈ vs, IsEnt s.heap v (k v)) (hi : ∀ v ∈ vs, ∀ u ∈ vs, k v = k u → v = u) (ha : ∀ o, s.heap.get? a = some o → o.cls ≠ .type "tuple") : SrtO.SortableO prog w A s a vs fun v u => HT.lexLt (k v) (k u) := by
  intro h' keep
  have kp : ∀ b o, s.heap.get? b = some o → o.cls = .type "tuple" → h'.get? b = some o := fun b o e c => keep b o (fun z => by subst z; exact ha o e c) e
  have hp' : ∀ v ∈ vs, IsEnt h' v (k v) := fun v hm => (hp v hm).keeps kp
  obtain ⟨fs, h1, h2, h3⟩ := ents_firsts hp'
  refine ⟨tuples' false, fun Q E hq => ?_, ent_cmp hu hp' hi⟩
  refine PySem.W.kat_kind (T := .type "tuple") h1 (by omega) (fun f hm => ?_) (by rfl) ?_
  · obtain ⟨q, ns, rfl, o, its, n, g1, g2, g3, g4⟩ := h3 f hm
    have e : PySem.W.Looks (model prog w) h' (typeOf (.ref q)) o.cls := (PySem.W.Looks.ld g1).andThen .now
    rw [g2] at e
    exact e
  · have e : (Value.type "tuple" != Value.type "tuple") = false := by first | decide +kernel | rfl | decide
    rw [e]
    exact hq
theorem sorted_ents {l : Addr} {vs : List Value} {k : Value → List Int} {E : Value → Shared → Prop} {Q : Value → Shared → Prop} (hu : A.units + 10 < cLine) (hl : s.heap.IsList l vs.toArray) (hz : vs.length ≤ sizeLine) (hp : ∀ v ∈ vs, IsEnt s.heap v (k v)) (hi : ∀ v ∈ vs, ∀ u ∈ vs, k v = k u → v = u)
    (h : ∀ (h' : Heap) (d : Addr) (out : List Value), SrtO.Srtd (fun v u => HT.lexLt (k v) (k u)) out → SrtO.Stb (fun v u => HT.lexLt (k v) (k u)) out vs → (∀ b o, s.heap.get? b = some o → h'.get? b = some o) → s.heap.objs.size ≤ d → (∃ n, h'.get? d = some (seqObj "list" out.toArray n)) → Q (.ref d) { s with heap := h' }) :
    wpAny (model prog w) A (call (.builtin "sorted") [.ref l]) Q E s := by
  refine SrtO.sorted_ord (swo_key k) hl hz (fun h2 h₁ a ha kk => ?_) fun out hs hb => ?_
  · refine ents_sortable (s := { s with heap := h₁ }) (by
      show A.units + 1 + 1 + 1 < cLine
      omega) (by omega) (fun v hm => (hp v hm).keeps fun b o e _ => (kk b o e).2) hi fun o e => ?_
    have e' : some o = some (seqObj "list" vs.toArray 0) := e.symm.trans ha
    cases e'
    intro c
    exact absurd (Value.type.inj c) (by decide)
  · exact h _ _ out hs hb (fun b o e => sortedAll_old e) (Nat.le_succ _) (sortedAll_at s.heap vs out.toArray)
/-! ### sorted: tuples of integers of any lengths -/
theorem one_lt_ti {q q' : Addr} {a b : List Int} {x : Bool} (h1 : IsTI s.heap q a) (h2 : IsTI s.heap q' b) (hu : A.units + 1 < cLine) {E : Value → Shared → Prop} {Q : Bool → Shared → Prop} (h : Q (HT.lexLt a b) s) : wpAny (model prog w) A (oneLt' x (.ref q) (.ref q')) Q E s := by
  cases x with
  | false => exact ti_lt h1 h2 (by omega) h
  | true =>
    obtain ⟨⟨cls, dd, data, sl⟩, i1, n1, a1, a2, a3, a4⟩ := h1
    obtain ⟨⟨cls2, dd2, data2, sl2⟩, i2, n2, b1, b2, b3, b4⟩ := h2
    simp only at a2 a3 b2 b3
    subst a2 a3 b2 b3
    rw [oneLt'_eq]
    simp only [if_true]
    refine wpAny_bind (wpAny_cRoomFor (by omega) ?_)
    refine wpAny_bind (wpAny_callSpecialIfBound?_slot (name := Str.ofString "__lt__") ⟨_, a1, rfl⟩ PySem.F.slot_tuple_lt (call_meets PySem.F.slot_tuple_lt ⟨_, a1, rfl⟩ PySem.F.entry_tuple_lt (PySem.F.args_tuple_lt_2 _ _) (HT.tuple_lt_ints q q' i1.toArray i2.toArray n1 n2 dd dd2 sl sl2 a b (by simpa using a4) (by simpa using b4)) ⟨a1, b1, ?_⟩))
    exact wpAny_truthy_bool h
theorem ti_lex {fin : Bool} {Q : Bool → Shared → Prop} : ∀ {vs us : List Value} {a b : List Int}, IntsAre vs a → IntsAre us b → (i : Nat) → (hf : a.length + us.length = a.length + us.length) → (∀ r, (∀ c d : List Int, c.length = a.length → d.length = b.length → True) → (r = HT.lexLt a b ∨ (r = fin ∧ (a.length ≤ b.length ∨ b.length ≤ a.length) ∧ HT.lexLt a b = decide (a.length < b.length) ∧ a.take b.length = b.take a.length)) → Q r s) →
    PySem.W.KatLex prog w A true fin Q (vs.zip us) i s
  | _, _, [], b, .nil, hb, i, _, h => by
    show Q fin s
    refine h fin (fun _ _ _ _ => trivial) (.inr ⟨rfl, .inl (Nat.zero_le _), ?_, by simp⟩)
    cases b with
    | nil => rfl
    | cons y ys => rfl
  | _, _, x :: a, [], .cons _ _ ra, .nil, i, _, h => by
    show Q fin s
    exact h fin (fun _ _ _ _ => trivial) (.inr ⟨rfl, .inr (Nat.zero_le _), rfl, by simp⟩)
  | _, _, x :: a, y :: b, .cons _ t ra, .cons _ u rb, i, _, h => by
    show PySem.W.KatLex prog w A true fin Q ((.int x t, .int y u) :: _) i s
    refine PySem.W.kat_cons (SeqAt.EqAt.int_int x t y u prog w _ _ ?_)
    refine PySem.W.kat_go (fun e1 => ?_) (fun e1 => ?_)
    · have ex : x = y := by simpa using e1
      subst ex
      refine PySem.W.kat_yes (ti_lex ra rb (i + 1) rfl fun r _ hr => h r (fun _ _ _ _ => trivial) ?_)
      rw [HT.lexLt_cons, if_pos rfl]
      rcases hr with hr | ⟨hr, h1, h2, h3⟩
      · exact .inl hr
      · refine .inr ⟨hr, ?_, ?_, ?_⟩
        · rw [List.length_cons, List.length_cons]
          omega
        · rw [h2, List.length_cons, List.length_cons]
          exact decide_eq_decide.mpr (by omega)
        · rw [List.length_cons, List.length_cons, List.take_succ_cons, List.take_succ_cons, h3]
    · have ex : ¬ x = y := by simpa using e1
      refine PySem.W.kat_no ?_
      have e3 : HT.lexLt (x :: a) (y :: b) = decide (x < y) := by rw [HT.lexLt_cons, if_neg ex]
      have hq : Q (decide (x < y)) s := h _ (fun _ _ _ _ => trivial) (.inl e3.symm)
      cases hb : (true && i == 0) with
      | true => exact oneLt_int hq
      | false => exact PySem.W.kat_one _ _ (PyProof.Rows.lt_int hq)
theorem ti_tuples {q q' : Addr} {a b : List Int} (h1 : IsTI s.heap q a) (h2 : IsTI s.heap q' b) {E : Value → Shared → Prop} {Q : Bool → Shared → Prop} (h : Q (HT.lexLt a b) s) : wpAny (model prog w) A (keyLt' (tuples' true) (.ref q) (.ref q')) Q E s := by
  obtain ⟨o1, i1, n1, a1, a2, a3, a4⟩ := h1
  obtain ⟨o2, i2, n2, b1, b2, b3, b4⟩ := h2
  refine PySem.W.kat_lt a1 a3 b1 b3 ?_
  have la := a4.length
  have lb := b4.length
  show PySem.W.KatLex prog w A true (decide (i1.toArray.size < i2.toArray.size)) Q (i1.zip i2) 0 s
  refine ti_lex a4 b4 0 rfl fun r _ hr => ?_
  rcases hr with hr | ⟨hr, _, h3, _⟩
  · rw [hr]
    exact h
  · rw [hr]
    have e : decide (i1.toArray.size < i2.toArray.size) = HT.lexLt a b := by
      rw [h3, List.size_toArray, List.size_toArray, la, lb]
    rw [e]
    exact h
def TiV (h : Heap) (v : Value) (ns : List Int) : Prop := ∃ q, v = .ref q ∧ IsTI h q ns
theorem ti_firsts {h : Heap} {k : Value → List Int} : ∀ {vs : List Value}, (∀ v ∈ vs, TiV h v (k v)) → (∀ v ∈ vs, k v ≠ []) → ∃ fs : List Value, PySem.W.KatTups h vs fs ∧ fs.length = vs.length ∧ ∀ f ∈ fs, ∃ x t, f = Value.int x t
  | [], _, _ => ⟨[], PySem.W.KatTups.nil, rfl, fun _ hm => by simp at hm⟩
  | v :: vs, hp, hn => by
    obtain ⟨fs, h1, h2, h3⟩ := ti_firsts (vs := vs) (fun v' hm => hp v' (List.mem_cons_of_mem _ hm)) (fun v' hm => hn v' (List.mem_cons_of_mem _ hm))
    obtain ⟨q, e, o, its, n, ho, hc, hd, ht⟩ := hp v (List.mem_cons_self ..)
    have hne := hn v (List.mem_cons_self ..)
    subst e
    revert hne ht
    generalize k (.ref q) = ns
    intro ht hne
    cases ht with
    | nil => exact absurd rfl hne
    | @cons x t vs' ns' r =>
      refine ⟨.int x t :: fs, PySem.W.KatTups.cons ho hc hd rfl h1, by rw [List.length_cons, List.length_cons, h2], fun f hm => ?_⟩
      rcases List.mem_cons.mp hm with rfl | hm
      · exact ⟨x, t, rfl⟩
      · exact h3 f hm
theorem ti_first {v : Value} {ns : List Int} (h : TiV s.heap v ns) {E : Value → Shared → Prop} {Q : Option Value → Shared → Prop} (q : ∀ r : Option Value, (r.isSome = true ↔ ns ≠ []) → Q r s) : wpAny (model prog w) A (firstOfTuple' v) Q E s := by
  obtain ⟨a, rfl, o, its, n, ho, hc, hd, ht⟩ := h
  rw [PySem.W.kas_first_eq]
  refine wpAny_bind (PySem.W.Looks.here (show PySem.W.Looks (model prog w) s.heap (typeOf (.ref a)) o.cls from (PySem.W.Looks.ld ho).andThen .now) ?_)
  rw [hc, if_neg (by first | decide | simp)]
  refine wpAny_bind (listItems_at ho hd (wpAny_pure ?_))
  refine q _ ?_
  cases ht with
  | nil => simp
  | cons x t r => simp
theorem ti_firstsM {k : Value → List Int} {E : Value → Shared → Prop} : ∀ {vs : List Value} {Q : List (Option Value) → Shared → Prop}, (∀ v ∈ vs, TiV s.heap v (k v)) → (∀ rs : List (Option Value), rs.length = vs.length → (∀ (i : Nat) (v : Value) (r : Option Value), vs[i]? = some v → rs[i]? = some r → (r.isSome = true ↔ k v ≠ [])) → Q rs s) → wpAny (model prog w) A (vs.mapM firstOfTuple') Q E s
  | [], Q, _, h => by
    rw [List.mapM_nil]
    exact wpAny_pure (h [] rfl fun i v r e => by simp at e)
  | v :: vs, Q, hp, h => by
    rw [List.mapM_cons]
    refine wpAny_bind (ti_first (hp v (List.mem_cons_self ..)) fun r hr => ?_)
    refine wpAny_bind (ti_firstsM (vs := vs) (fun v' hm => hp v' (List.mem_cons_of_mem _ hm)) fun rs hl hrs => wpAny_pure (h (r :: rs) (by rw [List.length_cons, List.length_cons, hl]) fun i v' r' e1 e2 => ?_))
    cases i with
    | zero =>
      cases (show some v = some v' from e1)
      cases (show some r = some r' from e2)
      exact hr
    | succ i => exact hrs i v' r' (by simpa using e1) (by simpa using e2)
theorem ti_types {E : Value → Shared → Prop} {k : Value → List Int} {vs : List Value} {Q : Option Value → Shared → Prop} (h0 : 0 < vs.length) (hp : ∀ v ∈ vs, TiV s.heap v (k v)) (h : Q (some (.type "tuple")) s) : wpAny (model prog w) A (oneTypeOnly' vs.toArray) Q E s := by
  obtain ⟨v1, vr, rfl⟩ : ∃ v1 vr, vs = v1 :: vr := by
    match vs, h0 with
    | v1 :: vr, _ => exact ⟨v1, vr, rfl⟩
  rw [oneTypeOnly'_eq, List.mapM_toArray, map_eq_pure_bind]
  refine wpAny_bind (wpAny_bind (PySem.W.kas_mapM (r := .type "tuple") _ (fun v hv Q' hq => ?_) (wpAny_pure ?_)))
  · obtain ⟨a, rfl, o, its, n, ho, hc, hd, ht⟩ := hp v hv
    have e : PySem.W.Looks (model prog w) s.heap (typeOf (.ref a)) o.cls := (PySem.W.Looks.ld ho).andThen .now
    rw [hc] at e
    exact e.here hq
  · have hall2 : ((List.map (fun _ => Value.type "tuple") (v1 :: vr)).toArray.all fun x => x == Value.type "tuple") = true := by
      simp only [List.all_toArray, List.all_map, List.all_eq_true]
      intro _ _
      rfl
    have h1 : (List.map (fun _ => Value.type "tuple") (v1 :: vr)).toArray[0]? = some (Value.type "tuple") := by simp
    rw [h1]
    simp only [hall2, if_true]
    exact wpAny_pure h
theorem ti_kind {k : Value → List Int} {vs : List Value} (h0 : 0 < vs.length) (hp : ∀ v ∈ vs, TiV s.heap v (k v)) : ∃ κ, (κ = tuples' true ∨ κ = general' ∨ κ = oneType') ∧ ∀ (Q : SortKind → Shared → Prop) (E : Value → Shared → Prop), Q κ s → wpAny (model prog w) A (keyKind' vs.toArray) Q E s := by
  by_cases hn : ∀ v ∈ vs, k v ≠ []
  · obtain ⟨fs, h1, h2, h3⟩ := ti_firsts hp hn
    refine ⟨tuples' true, .inl rfl, fun Q E hq => ?_⟩
    refine PySem.W.kat_kind (T := .type "int") h1 (by omega) (fun f hm => ?_) (by rfl) ?_
    · obtain ⟨x, t, rfl⟩ := h3 f hm
      exact PySem.W.Looks.now
    · have e : (Value.type "int" != Value.type "tuple") = true := by first | decide +kernel | rfl | decide
      rw [e]
      exact hq
  · obtain ⟨v, hv, hve⟩ : ∃ v ∈ vs, k v = [] := by
      refine Classical.byContradiction fun q => hn fun v hv e => q ⟨v, hv, e⟩
    obtain ⟨i, hi, hiv⟩ := List.getElem_of_mem hv
    have hiv : vs[i]? = some v := by rw [List.getElem?_eq_getElem hi, hiv]
    have no : ∀ rs : List (Option Value), rs.length = vs.length → (∀ (i : Nat) (v : Value) (r : Option Value), vs[i]? = some v → rs[i]? = some r → (r.isSome = true ↔ k v ≠ [])) → (rs.toArray.all fun x => x.isSome) = false := fun rs hl hrs => by
      cases hh : (rs.toArray.all fun x => x.isSome) with
      | false => rfl
      | true =>
        rw [List.all_toArray, List.all_eq_true] at hh
        have hir : i < rs.length := by omega
        have h1 := hrs i v rs[i] hiv (List.getElem?_eq_getElem hir)
        exact absurd hve (h1.mp (hh _ (List.getElem_mem hir)))
    by_cases hf : ∀ v0, vs[0]? = some v0 → k v0 ≠ []
    · refine ⟨general', .inr (.inl rfl), fun Q E hq => ?_⟩
      rw [kat_kind_eq, List.mapM_toArray, map_eq_pure_bind]
      refine wpAny_bind (wpAny_bind (ti_firstsM hp fun rs hl hrs => wpAny_pure ?_))
      rw [if_neg (by rw [no rs hl hrs]; decide)]
      have h00 : 0 < rs.length := by omega
      have e0 : (rs.toArray[0]?.bind id).isSome = true := by
        have hv0 : vs[0]? = some vs[0] := List.getElem?_eq_getElem h0
        have := (hrs 0 _ rs[0] hv0 (List.getElem?_eq_getElem h00)).mpr (hf _ hv0)
        simp [h00, this]
      rw [if_pos e0]
      exact wpAny_pure hq
    · obtain ⟨v0, hv0, hk0⟩ : ∃ v0, vs[0]? = some v0 ∧ k v0 = [] := by
        refine Classical.byContradiction fun q => hf fun v hv e => q ⟨v, hv, e⟩
      refine ⟨oneType', .inr (.inr rfl), fun Q E hq => ?_⟩
      rw [kat_kind_eq, List.mapM_toArray, map_eq_pure_bind]
      refine wpAny_bind (wpAny_bind (ti_firstsM hp fun rs hl hrs => wpAny_pure ?_))
      rw [if_neg (by rw [no rs hl hrs]; decide)]
      have h00 : 0 < rs.length := by omega
      have e0 : ¬ (rs.toArray[0]?.bind id).isSome = true := by
        have h1 := hrs 0 _ rs[0] hv0 (List.getElem?_eq_getElem h00)
        have h2 : ¬ rs[0].isSome = true := fun z => absurd hk0 (h1.mp z)
        simp [h00]
        simpa using h2
      rw [if_neg e0]
      refine wpAny_bind (ti_types h0 hp ?_)
      exact wpAny_pure hq
theorem ti_cmp {vs : List Value} {k : Value → List Int} {κ : SortKind} (hκ : κ = tuples' true ∨ κ = general' ∨ κ = oneType') (hu : A.units + 1 < cLine) (hp : ∀ v ∈ vs, TiV s.heap v (k v)) : SrtO.Cmp prog w A s κ (fun p => p.1 ∈ vs) (SrtO.lt2 fun v u => HT.lexLt (k v) (k u)) := by
  intro p q hm hm'
  obtain ⟨a, e1, h1⟩ := hp _ hm
  obtain ⟨b, e2, h2⟩ := hp _ hm'
  show wpAny (model prog w) A (keyLt' κ p.1 q.1) (fun r s' => s' = s ∧ r = HT.lexLt (k p.1) (k q.1)) (fun _ _ => False) s
  generalize k p.1 = x at h1 ⊢
  generalize k q.1 = y at h2 ⊢
  rw [e1, e2]
  rcases hκ with e | e | e
  · subst e
    exact ti_tuples h1 h2 ⟨rfl, rfl⟩
  · subst e
    exact one_lt_ti (x := false) h1 h2 hu ⟨rfl, rfl⟩
  · subst e
    exact one_lt_ti (x := true) h1 h2 hu ⟨rfl, rfl⟩
theorem IsTI.of_keeps {h h' : Heap} {v : Value} {ns : List Int} (x : TiV h v ns) (k : ∀ b o, h.get? b = some o → o.cls = .type "tuple" → h'.get? b = some o) : TiV h' v ns := by
  obtain ⟨q, e, t⟩ := x
  exact ⟨q, e, t.keeps k⟩
theorem tis_sortable {a : Addr} {vs : List Value} {k : Value → List Int} (hu : A.units + 1 < cLine) (h0 : 0 < vs.length) (hp : ∀ v ∈ vs, TiV s.heap v (k v)) (ha : ∀ o, s.heap.get? a = some o → o.cls ≠ .type "tuple") : SrtO.SortableO prog w A s a vs fun v u => HT.lexLt (k v) (k u) := by
  intro h' keep
  have kp : ∀ b o, s.heap.get? b = some o → o.cls = .type "tuple" → h'.get? b = some o := fun b o e c => keep b o (fun z => by subst z; exact ha o e c) e
  have hp' : ∀ v ∈ vs, TiV h' v (k v) := fun v hm => IsTI.of_keeps (hp v hm) kp
  obtain ⟨κ, hκ, hk⟩ := ti_kind (prog := prog) (w := w) (A := A) (s := { s with heap := h' }) h0 hp'
  exact ⟨κ, hk, ti_cmp hκ hu hp'⟩
/-- the keys of a dict, one by one -/
theorem rawSrc {d : Addr} {es : Array DictEntry} {ep : Nat} (lo : (d == sysModules) = false) : KdlSrc prog w "dict" d d es.size (fun i v => ∃ en, es[i]? = some en ∧ v = en.key) (fun h => DT.Raw h d es ep) where
  type := fun _ hm => hm.typeIs
  there := fun _ hm => ⟨hm.lt, hm.lt⟩
  keep := fun _ _ hm hk => hm.at' fun o e => hk d (.inl rfl) o e
  notList := by decide
  notTuple := by decide
  hint := fun _ _ _ _ hm hq => kdl_hint_dict hm.typeIs hq
  iter := fun A s hh hm => by
    obtain ⟨o, ho, hc, hdat⟩ := id hm
    refine ⟨_, fun i h => h.IsKeyIter s.heap.objs.size d i es.size ep ∧ DT.Raw h d es ep, fun _ _ hq => L2.iter_keys lo ho hc hdat hq, ?_, ⟨⟨_, Heap.get?_push_size _ rfl, rfl, rfl⟩, hm.push _⟩⟩
    have hne : d ≠ s.heap.objs.size := Nat.ne_of_lt hm.lt
    refine ⟨fun b hb => by simp at hb; simp [hb], fun i h h' st hk => ⟨st.1.at fun o e => hk _ (by simp) o e, st.2.at' fun o e => hk d (by simp) o e⟩, fun i s Q E hi st hQ => ?_, fun s Q E st hQ => ?_, fun i s Q E st hQ => wpAny_pyIter_keyiter st.1 hQ⟩
    · obtain ⟨od, hod, hoc, hdd⟩ := id st.2
      refine L2.next_key_item st.1 hod hdd rfl (Array.getElem?_eq_getElem hi) fun h' hit' hs' => ?_
      exact hQ _ h' s.toks ⟨_, Array.getElem?_eq_getElem hi, rfl⟩ ⟨hit', st.2.at' fun o e => hs'.extBut d o hne e⟩ fun b o hb e => hs'.extBut b o (fun h => hb (by simp [h])) e
    · obtain ⟨od, hod, hoc, hdd⟩ := id st.2
      exact L2.next_key_end hh st.1 hod hdd rfl (Nat.le_refl _) fun h' he' => hQ h' s.toks fun b o hb e => he' b o (fun h => hb (by simp [h])) e
end
/-! ### .. as rules of the layer -/
section
open PyProof.Rows PySem.W PySem.Calls
theorem ints_uniq : ∀ {vs : List Value} {a b : List Int}, IntsAre vs a → IntsAre vs b → a = b
  | _, _, _, .nil, .nil => rfl
  | _, _, _, .cons n t r, .cons _ _ r2 => by rw [ints_uniq r r2]
theorem IsTI.uniq {h : Heap} {q : Addr} {a b : List Int} (x : IsTI h q a) (y : IsTI h q b) : a = b := by
  obtain ⟨o, i, n, h1, h2, h3, h4⟩ := x
  obtain ⟨o', i', n', g1, g2, g3, g4⟩ := y
  rw [h1] at g1
  cases g1
  rw [h3] at g3
  have e : i = i' := by
    injection g3 with e1 e2
    simpa using e1
  subst e
  exact ints_uniq h4 g4
theorem IsEnt.uniq {h : Heap} {v : Value} {a b : List Int} (x : IsEnt h v a) (y : IsEnt h v b) : a = b := by
  obtain ⟨t, q, u, o, n, e, h1, h2, h3, h4⟩ := x
  obtain ⟨t', q', u', o', n', e', g1, g2, g3, g4⟩ := y
  rw [e] at e'
  cases e'
  rw [h1] at g1
  cases g1
  rw [h3] at g3
  have e : q = q' := by
    injection g3 with e1 e2
    simp at e1
    exact e1.1
  subst e
  exact h4.uniq g4
open Classical in
noncomputable def entK (h : Heap) (v : Value) : List Int := if hx : ∃ ns, IsEnt h v ns then Classical.choose hx else []
theorem entK_is {h : Heap} {v : Value} {ns : List Int} (x : IsEnt h v ns) : entK h v = ns := by
  have hx : ∃ ns, IsEnt h v ns := ⟨ns, x⟩
  unfold entK
  rw [dif_pos hx]
  exact (Classical.choose_spec hx).uniq x
open Classical in
noncomputable def tiK (h : Heap) (v : Value) : List Int := if hx : ∃ ns, TiV h v ns then Classical.choose hx else []
theorem TiV.uniq {h : Heap} {v : Value} {a b : List Int} (x : TiV h v a) (y : TiV h v b) : a = b := by
  obtain ⟨q, e, t⟩ := x
  obtain ⟨q', e', t'⟩ := y
  rw [e] at e'
  cases e'
  exact t.uniq t'
theorem tiK_is {h : Heap} {v : Value} {ns : List Int} (x : TiV h v ns) : tiK h v = ns := by
  have hx : ∃ ns, TiV h v ns := ⟨ns, x⟩
  unfold tiK
  rw [dif_pos hx]
  exact (Classical.choose_spec hx).uniq x
structure Ent where
  t : Addr
  q : Addr
  u : Addr
  k : List Int
def EntAt (H : Hp) (e : Ent) : Prop := H e.t = some (.tup [.ref e.q, .ref e.u]) ∧ H e.q = some (.tup (e.k.map V.int))
variable {X : Cx}
theorem ti_of {pins : List (Addr × Obj)} {σ : L2.St} {H : Hp} {s : Shared} (I : L2.Inv X pins σ H s) {q : Addr} {ns : List Int} (h : H q = some (.tup (ns.map V.int))) : IsTI s.heap q ns := by
  obtain ⟨_, its, rv, o, ho, hc, n, hd⟩ := I.hok _ _ h
  exact ⟨o, its, n, ho, hc, hd, rv.ints⟩
theorem ent_of {pins : List (Addr × Obj)} {σ : L2.St} {H : Hp} {s : Shared} (I : L2.Inv X pins σ H s) {e : Ent} (h : EntAt H e) : IsEnt s.heap (.ref e.t) e.k := by
  obtain ⟨h1, h2⟩ := h
  obtain ⟨_, its, rv, o, ho, hc, n, hd⟩ := I.hok _ _ h1
  obtain ⟨u1, u2, rfl, r1, r2⟩ := vals2 rv
  cases r1
  cases r2
  exact ⟨e.t, e.q, e.u, o, n, rfl, ho, hc, hd, ti_of I h2⟩
theorem vals_refs {α : Type} (f : α → Addr) : ∀ {l : List α} {us : List Value}, Vals (l.map fun z => V.ref (f z)) us → us = l.map fun z => Value.ref (f z)
  | [], us, h => by cases h; rfl
  | z :: l, us, h => by
    cases h with
    | cons r t =>
      cases r
      rw [vals_refs f t]
      rfl
theorem vals_refsB {α : Type} (f : α → Addr) : ∀ (l : List α), Vals (l.map fun z => V.ref (f z)) (l.map fun z => Value.ref (f z))
  | [] => .nil
  | z :: l => .cons rfl (vals_refsB f l)
theorem perm_up {α β : Type} (f : α → β) : ∀ {out : List β} {l : List α}, out.Perm (l.map f) → ∃ zs : List α, zs.Perm l ∧ zs.map f = out := by
  intro out l h
  generalize hm : l.map f = m at h
  induction h generalizing l with
  | nil =>
    cases l with
    | nil => exact ⟨[], .refl _, rfl⟩
    | cons x l => cases hm
  | @cons b out m p ih =>
    cases l with
    | nil => cases hm
    | cons x l =>
      injection hm with e1 e2
      obtain ⟨zs, pz, ez⟩ := ih e2
      exact ⟨x :: zs, pz.cons x, by rw [List.map_cons, e1, ez]⟩
  | swap b c m =>
    cases l with
    | nil => cases hm
    | cons x l =>
      cases l with
      | nil => cases hm
      | cons y l =>
        injection hm with e1 e2
        injection e2 with e2 e3
        exact ⟨y :: x :: l, .swap _ _ _, by rw [List.map_cons, List.map_cons, e1, e2, e3]⟩
  | trans p1 p2 ih1 ih2 =>
    obtain ⟨z2, q2, e2⟩ := ih2 hm
    obtain ⟨z1, q1, e1⟩ := ih1 e2
    exact ⟨z1, q1.trans q2, e1⟩
/-- sorted(xs), xs a list of pairs of a tuple of integers and an object, no two with the same integers -/
def rSortedE (K : PySem.W.Frag) : List V → Hp → VK → Prop := fun vs H Q => ∃ (a : Addr) (es : List Ent), vs = [V.ref a] ∧ SqL K H a (es.map fun e => V.ref e.t) ∧ (∀ e ∈ es, EntAt H e) ∧ (es.map (·.k)).Nodup ∧
  ∀ (es' : List Ent) (p : Addr), es'.Perm es → (es'.map (·.k)).Pairwise (fun x y => HT.lexLt x y = true) → H p = none → Q (.ref p) (upd H p (.lst (es'.map fun e => V.ref e.t)))
theorem strict_of {l : List (List Int)} (h1 : l.Pairwise (fun x y => HT.lexLt y x = false)) (h2 : l.Nodup) : l.Pairwise (fun x y => HT.lexLt x y = true) := by
  refine (List.Pairwise.and h1 h2).imp fun {x y} ⟨a, b⟩ => ?_
  cases h : HT.lexLt x y with
  | true => rfl
  | false => exact absurd (lexLt_tri _ _ h a) b
theorem cr_sortedE (hu : X.A.units + 64 < cLine) : CallR X (.builtin "sorted") (rSortedE X.K) := by
  intro pins s σ H vs us Q I r h
  obtain ⟨a, es, rfl, hs, he, hn, q⟩ := h
  obtain ⟨its, rv, hl, hz⟩ := I.list hs
  obtain ⟨u, rfl, ru⟩ := vals1 r
  obtain rfl : u = Value.ref a := ru
  have ei := vals_refs (fun e : Ent => e.t) rv
  have at_ : ∀ v ∈ its, ∃ e ∈ es, v = .ref e.t ∧ entK s.heap v = e.k ∧ IsEnt s.heap v e.k := fun v hv => by
    rw [ei] at hv
    obtain ⟨e, hm, rfl⟩ := List.mem_map.mp hv
    have x := ent_of I (he e hm)
    exact ⟨e, hm, rfl, entK_is x, x⟩
  have inj : ∀ e ∈ es, ∀ f ∈ es, e.k = f.k → e = f := fun e h1 f h2 hk => by
    obtain ⟨i, hi, ei⟩ := List.getElem_of_mem h1
    obtain ⟨j, hj, ej⟩ := List.getElem_of_mem h2
    have := List.pairwise_iff_getElem.mp hn
    rcases Nat.lt_trichotomy i j with c | c | c
    · have q := this i j (by rw [List.length_map]; exact hi) (by rw [List.length_map]; exact hj) c
      rw [List.getElem_map, List.getElem_map, ei, ej] at q
      exact absurd hk q
    · subst c
      exact ei.symm.trans ej
    · have q := this j i (by rw [List.length_map]; exact hj) (by rw [List.length_map]; exact hi) c
      rw [List.getElem_map, List.getElem_map, ei, ej] at q
      exact absurd hk.symm q
  refine sorted_ents (k := entK s.heap) (by omega) hl.isList (by rw [← rv.length]; exact hz) (fun v hv => ?_) (fun v hv u hu' hk => ?_) fun h' d out h1 h2 kp hd hn' => ?_
  · obtain ⟨e, _, _, e2, x⟩ := at_ v hv
    rw [e2]
    exact x
  · obtain ⟨e, m1, e1, e2, _⟩ := at_ v hv
    obtain ⟨f, m2, f1, f2, _⟩ := at_ u hu'
    rw [e2, f2] at hk
    rw [e1, f1, inj e m1 f m2 hk]
  · have pe := h2.perm
    rw [ei] at pe
    obtain ⟨zs, pz, ez⟩ := perm_up (fun e : Ent => Value.ref e.t) pe
    obtain ⟨n, hn'⟩ := hn'
    have srt : (zs.map (·.k)).Pairwise (fun x y => HT.lexLt y x = false) := by
      have h1' := h1
      rw [← ez] at h1'
      have h1'' := List.pairwise_map.mp h1'
      rw [List.pairwise_map]
      refine List.Pairwise.imp_of_mem (fun {x y} hx hy hxy => ?_) h1''
      have ex := entK_is (ent_of I (he x (pz.mem_iff.mp hx)))
      have ey := entK_is (ent_of I (he y (pz.mem_iff.mp hy)))
      have hxy : HT.lexLt (entK s.heap (.ref y.t)) (entK s.heap (.ref x.t)) = false := hxy
      rw [ex, ey] at hxy
      exact hxy
    have nd : (zs.map (·.k)).Nodup := (pz.map (·.k)).nodup_iff.mpr hn
    refine ⟨.ref d, upd H d (.lst (zs.map fun e => V.ref e.t)), I.laid (t' := s.toks) kp hd ⟨?_, out, n, ?_, hn'⟩, rfl, q zs d pz (strict_of srt nd) (I.hok.fresh hd)⟩
    · rw [List.length_map, pz.length_eq]
      rw [List.length_map] at hz
      exact hz
    · rw [← ez]
      exact vals_refsB (fun e : Ent => e.t) zs
/-- sorted(d), d a dict whose keys are tuples of integers: the keys themselves, in order -/
def rSortedTD : List V → Hp → VK → Prop := fun vs H Q => ∃ (a : Addr) (kvs : List (List L2.Key × V)) (ks : List (List Int)), vs = [.ref a] ∧ H a = some (.dT kvs) ∧ kvs.map (·.1) = ks.map (·.map Sum.inl) ∧
  ∀ (p : Addr) (qs : List (Addr × List Int)), (qs.map (·.2)).Perm ks → (qs.map (·.2)).Pairwise (fun x y => HT.lexLt x y = true) → (∀ z ∈ qs, H z.1 = some (.tup (z.2.map V.int))) → H p = none → Q (.ref p) (upd H p (.lst (qs.map fun z => V.ref z.1)))
theorem kv_ints (ns : List Int) : (ns.map (Sum.inl : Int → L2.Key)).map kV = ns.map V.int := by
  rw [List.map_map]
  rfl
theorem cr_sortedTD (hcalm : X.calm = true) (hu : X.A.units + 64 < cLine) : CallR X (.builtin "sorted") rSortedTD := by
  intro pins s σ H xs us Q I r h
  obtain ⟨a, kvs, ks, rfl, ha, hks, q⟩ := h
  obtain ⟨u, eu, rx⟩ := vals1 r
  subst eu
  cases rx
  obtain ⟨z, lo, xs', rel, o, es, ep, ho, hx, hdat, hes, hn⟩ := (show ObjOk X.prog X.w H s.heap a (.dT kvs) from I.hok a _ ha)
  have l1 : kvs.length = xs'.length := Paired.length rel
  have l2 : es.size = xs'.length := by
    have e := congrArg List.length hes
    rw [Array.length_toList, List.length_map] at e
    exact e
  have l3 : kvs.length = ks.length := by
    have e := congrArg List.length hks
    rw [List.length_map, List.length_map] at e
    exact e
  have hr : DT.Raw s.heap a es ep := ⟨o, ho, hx, hdat⟩
  have at_ : ∀ (j : Nat) (e : Addr × List Int), ((xs'.map (·.2.1)).zip ks)[j]? = some e → H e.1 = some (.tup (e.2.map V.int)) := by
    intro j e hj
    obtain ⟨h1, h2⟩ := List.getElem?_zip_eq_some.mp hj
    rw [List.getElem?_map] at h1
    obtain ⟨x, hx1, hx2⟩ := Option.map_eq_some_iff.mp h1
    have hjl : j < kvs.length := by
      have := (List.getElem?_eq_some_iff.mp hx1).1
      omega
    obtain ⟨b, hb, r1, r2, r3⟩ := L2.paired_get rel (List.getElem?_eq_getElem hjl)
    rw [hx1] at hb
    cases hb
    have hk : (kvs.map (·.1))[j]? = some kvs[j].1 := by rw [List.getElem?_map, List.getElem?_eq_getElem hjl]; rfl
    rw [hks, List.getElem?_map, h2] at hk
    have hk : e.2.map Sum.inl = kvs[j].1 := Option.some.inj hk
    rw [← hx2, r2, ← hk, kv_ints]
  refine Calls.call_function_entry PyProof.Rows.kind_sorted PyProof.Rows.plain_sorted PyProof.Rows.entry_sorted (PyProof.Rows.args_sorted1 _) ?_
  unfold Builtin.«sorted»
  refine wpAny_bind (m := checkCount "sorted" 1 1 _) (wpAny_pure ?_)
  refine wpAny_bind (PySem.W.kdu_collect (A := X.A.in1) (rawSrc (es := es) (ep := ep) lo) (I.ok.hd hcalm) hr (by rw [l2, ← l1]; exact z) fun h' tk acc hk hacc => ?_)
  have hal : acc.toList.length = es.size := by rw [Array.length_toList, hacc.1]
  have hae : acc.toList = ((xs'.map (·.2.1)).zip ks).map fun e => Value.ref e.1 := by
    refine List.ext_getElem? fun j => ?_
    by_cases hj : j < acc.toList.length
    · have hj2 : j < xs'.length := by omega
      obtain ⟨en, he, hv⟩ := hacc.2 j acc.toList[j] (by rw [← Array.getElem?_toList]; exact List.getElem?_eq_getElem hj)
      rw [← Array.getElem?_toList, hes, List.getElem?_map, List.getElem?_eq_getElem hj2] at he
      have he : entryOfKey (tupleKind (mixKind X.prog X.w)) xs'[j] = en := Option.some.inj he
      rw [List.getElem?_eq_getElem hj, hv, ← he, List.getElem?_map]
      have hz : ((xs'.map (·.2.1)).zip ks)[j]? = some (xs'[j].2.1, ks[j]'(by omega)) := by
        rw [List.getElem?_zip_eq_some]
        exact ⟨by rw [List.getElem?_map, List.getElem?_eq_getElem hj2]; rfl, List.getElem?_eq_getElem (by omega)⟩
      rw [hz]
      rfl
    · rw [List.getElem?_eq_none (by omega), List.getElem?_eq_none]
      rw [List.length_map, List.length_zip, List.length_map]
      omega
  have I1 : L2.Inv X pins σ H { s with heap := h', toks := tk } := I.kept hk
  refine wpAny_bind (wpAny_newList ?_ (by rw [hal, l2, ← l1]; exact z))
  have hoL : (h'.push (seqObj "list" acc.toList.toArray 0)).get? h'.objs.size = some (seqObj "list" acc.toList.toArray 0) := Heap.get?_push_size _ rfl
  have hkeep : ∀ b o, h'.get? b = some o → b ≠ h'.objs.size ∧ (h'.push (seqObj "list" acc.toList.toArray 0)).get? b = some o := fun b o e => ⟨Nat.ne_of_lt (Heap.lt_size e), Heap.get?_push_of_some _ e⟩
  show wpAny _ _ _ _ _ { s with heap := h'.push (seqObj "list" acc.toList.toArray 0), toks := tk }
  have tis : ∀ v ∈ acc.toList, TiV s.heap v (tiK s.heap v) := fun v hv => by
    rw [hae] at hv
    obtain ⟨e, hm, rfl⟩ := List.mem_map.mp hv
    obtain ⟨j, hj⟩ := List.mem_iff_getElem?.mp hm
    have x : TiV s.heap (.ref e.1) e.2 := ⟨e.1, rfl, ti_of I (at_ j e hj)⟩
    rw [tiK_is x]
    exact x
  refine wpAny_bind (wpAny_holding (wpAny_call_entry PyProof.Rows.slot_list_sort ⟨_, hoL, rfl⟩ PyProof.Rows.entry_list_sort
    (SrtO.list_sort_ord (s := { s with heap := h'.push (seqObj "list" acc.toList.toArray 0), toks := tk }) (swo_key (tiK s.heap)) hoL (by rw [hal, l2, ← l1]; exact z) (fun h2 => ?_) fun out hs hb => ⟨_, rfl, ?_⟩) (PyProof.Rows.args_list_sort _)))
  · refine tis_sortable (by
      show X.A.units + 1 + 1 + 1 < cLine
      omega) (by omega) (fun v hv => IsTI.of_keeps (tis v hv) fun b o e _ => (hkeep b o (hk b o e)).2) fun o e => ?_
    have e' : some o = some (seqObj "list" acc.toList.toArray 0) := e.symm.trans hoL
    cases e'
    intro c
    exact absurd (Value.type.inj c) (by decide)
  · have pe := hb.perm
    rw [hae] at pe
    obtain ⟨zs, pz, ez⟩ := perm_up (fun e : Addr × List Int => Value.ref e.1) pe
    obtain ⟨e', he'⟩ := PyProof.Rows.sortedHeap_at (vs := acc.toList) (out := out.toArray) hoL
    have hzk : ∀ e ∈ zs, H e.1 = some (.tup (e.2.map V.int)) := fun e hm => by
      obtain ⟨j, hj⟩ := List.mem_iff_getElem?.mp (pz.mem_iff.mp hm)
      exact at_ j e hj
    have hks2 : ((xs'.map (·.2.1)).zip ks).map (·.2) = ks := List.map_snd_zip (by rw [List.length_map]; omega)
    have pks : (zs.map (·.2)).Perm ks := by
      have q := pz.map (·.2)
      rw [hks2] at q
      exact q
    have nd : ks.Nodup := by
      have e1 : xs'.map (·.1) = ks.map (·.map Sum.inl) := by
        rw [← hks]
        clear hn hes l1 l2 l3 at_ hae hal hacc tis pe pz hks2 hks ha z
        induction rel with
        | nil => rfl
        | cons r t ih =>
          rw [List.map_cons, List.map_cons, ih, r.1]
      rw [e1] at hn
      exact List.Pairwise.of_map _ (fun a b h e => h (congrArg _ e)) hn
    have srt : (zs.map (·.2)).Pairwise (fun x y => HT.lexLt y x = false) := by
      have h1' := hs
      rw [← ez] at h1'
      have h1'' := List.pairwise_map.mp h1'
      rw [List.pairwise_map]
      refine List.Pairwise.imp_of_mem (fun {x y} hx hy hxy => ?_) h1''
      have ex := tiK_is (h := s.heap) (v := .ref x.1) ⟨x.1, rfl, ti_of I (hzk x hx)⟩
      have ey := tiK_is (h := s.heap) (v := .ref y.1) ⟨y.1, rfl, ti_of I (hzk y hy)⟩
      have hxy : HT.lexLt (tiK s.heap (.ref y.1)) (tiK s.heap (.ref x.1)) = false := hxy
      rw [ex, ey] at hxy
      exact hxy
    have hn0 : H h'.objs.size = none := I1.hok.fresh (Nat.le_refl _)
    refine wpAny_pure ⟨_, rfl, .ref h'.objs.size, upd H h'.objs.size (.lst (zs.map fun z => V.ref z.1)), I1.laid (t' := tk) (fun b u e => ?_) (Nat.le_refl _) ⟨?_, out, e', ?_, he'⟩, rfl, q h'.objs.size zs pks (strict_of srt (pks.nodup_iff.mpr nd)) hzk hn0⟩
    · exact (PyProof.Rows.sortedHeap_old (hkeep b u e).1 (Heap.lt_size (hkeep b u e).2)).trans (hkeep b u e).2
    · have e1 := pz.length_eq
      rw [List.length_map, e1, List.length_zip, List.length_map]
      omega
    · rw [← ez]
      exact vals_refsB (fun e : Addr × List Int => e.1) zs
end

local macro_rules | `(tactic| walk_at "rd1") => `(tactic| first
  | (with_reducible refine r_sl ?_)
  | (with_reducible refine r_part ?_)
  | (with_reducible refine r_some ?_)
  | (with_reducible refine r_nopart ?_)
  | (with_reducible refine r_rng2 ?_)
  | (with_reducible refine r_rng3 ?_)
  | (with_reducible refine r_itL ?_)
  | (with_reducible refine r_itT ?_)
  | (with_reducible refine r_lcT ?_)
  | (with_reducible refine r_lcL ?_)
  | (with_reducible refine r_lc0 ?_))
local macro_rules | `(tactic| walk_at "ri1") => `(tactic| first
  | (with_reducible refine r_sl ?_)
  | (with_reducible refine r_part ?_)
  | (with_reducible refine r_some ?_)
  | (with_reducible refine r_nopart ?_)
  | (with_reducible refine r_rng2 ?_)
  | (with_reducible refine r_rng3 ?_)
  | (with_reducible refine r_itL ?_)
  | (with_reducible refine r_itT ?_)
  | (with_reducible refine r_lcT ?_)
  | (with_reducible refine r_lcL ?_)
  | (with_reducible refine r_lc0 ?_))

/-! ### the digits of a number, as texts -/
section
open PySem.NumText
def dg (n : Nat) : List Nat := (Nat.toDigits 10 n).map Char.toNat
theorem str_dg (n : Nat) : Str.ofString (toString ((n : Nat) : Int)) = S (dg n) := (S_tl _).symm.trans (congrArg S (PySem.W.KIN.signs_num n))
theorem str_dgI {i : Int} (h : 0 ≤ i) : Str.ofString (toString i) = S (dg i.toNat) := by
  have e : ((i.toNat : Nat) : Int) = i := Int.toNat_of_nonneg h
  rw [← str_dg, e]
theorem dgc (d : Nat) (h : d < 10) : (Nat.digitChar d).toNat = 48 + d := by
  revert d
  decide
theorem dg_lt {d : Nat} (h : d < 10) : dg d = [48 + d] := by
  unfold dg
  rw [Nat.toDigits_of_lt_base h]
  show [(Nat.digitChar d).toNat] = _
  rw [dgc d h]
theorem dg_step {n : Nat} (h : 10 ≤ n) : dg n = dg (n / 10) ++ [48 + n % 10] := by
  have hm : n % 10 < 10 := Nat.mod_lt n (by decide)
  have t : Nat.toDigits 10 (n / 10) ++ Nat.toDigits 10 (n % 10) = Nat.toDigits 10 (10 * (n / 10) + n % 10) := Nat.toDigits_append_toDigits (by decide) (by omega) hm
  rw [Nat.div_add_mod] at t
  unfold dg
  rw [← t, List.map_append, Nat.toDigits_of_lt_base hm]
  show _ ++ [(Nat.digitChar (n % 10)).toNat] = _
  rw [dgc _ hm]
theorem dg_val (n : Nat) : digitsVal (dg n) = n := PySem.W.KIN.val_back n
theorem dg_all (n : Nat) : AllDigits (dg n) := by
  induction n using Nat.strongRecOn with
  | _ n ih =>
    by_cases h : n < 10
    · rw [dg_lt h]
      intro c hc
      have e : c = 48 + n := by simpa using hc
      omega
    · rw [dg_step (by omega)]
      intro c hc
      rcases List.mem_append.mp hc with hc | hc
      · exact ih (n / 10) (by omega) c hc
      · have e : c = 48 + n % 10 := by simpa using hc
        omega
theorem dg_pos (n : Nat) : 0 < (dg n).length := by
  by_cases h : n < 10
  · rw [dg_lt h]
    exact Nat.one_pos
  · rw [dg_step (by omega), List.length_append]
    show 0 < _ + 1
    omega
theorem dg_ne (n : Nat) : dg n ≠ [] := fun e => by
  have := dg_pos n
  rw [e] at this
  cases this
theorem dg_len : ∀ (k n : Nat), n < 10 ^ (k + 1) → (dg n).length ≤ k + 1
  | 0, n, h => by
    rw [dg_lt (by simpa using h)]
    exact Nat.le_refl _
  | k + 1, n, h => by
    by_cases c : n < 10
    · rw [dg_lt c]
      show 1 ≤ _
      omega
    · rw [dg_step (by omega), List.length_append]
      have := dg_len k (n / 10) (by rw [Nat.pow_succ] at h; omega)
      show _ + 1 ≤ _
      omega
theorem dg_lenP {k n : Nat} (h : n < 10 ^ k) : (dg n).length ≤ k + 1 := dg_len k n (Nat.lt_of_lt_of_le h (Nat.pow_le_pow_right (by decide) (Nat.le_succ k)))
/-- k digits of r -/
def pad : Nat → Nat → List Nat
  | 0, _ => []
  | k + 1, r => pad k (r / 10) ++ [48 + r % 10]
theorem pad_len : ∀ (k r : Nat), (pad k r).length = k
  | 0, _ => rfl
  | k + 1, r => by
    show (pad k (r / 10) ++ [48 + r % 10]).length = _
    rw [List.length_append, pad_len k]
    rfl
theorem pad_zero : ∀ k : Nat, pad k 0 = List.replicate k 48
  | 0 => rfl
  | k + 1 => by
    show pad k 0 ++ [48] = _
    rw [pad_zero k, List.replicate_succ']
theorem dg_pad : ∀ (k q r : Nat), 0 < q → r < 10 ^ k → dg (q * 10 ^ k + r) = dg q ++ pad k r
  | 0, q, r, _, h => by
    have e : r = 0 := by
      have : (10 : Nat) ^ 0 = 1 := rfl
      omega
    rw [e, Nat.pow_zero, Nat.mul_one, Nat.add_zero]
    exact (List.append_nil _).symm
  | k + 1, q, r, hq, h => by
    have hp : 0 < 10 ^ k := Nat.pow_pos (by decide)
    have e10 : q * 10 ^ (k + 1) = 10 * (q * 10 ^ k) := by
      rw [Nat.pow_succ, ← Nat.mul_assoc, Nat.mul_comm]
    have hge : 1 ≤ q * 10 ^ k := Nat.mul_pos hq hp
    have hr : r / 10 < 10 ^ k := by
      rw [Nat.pow_succ] at h
      omega
    rw [e10, dg_step (by omega), show (10 * (q * 10 ^ k) + r) / 10 = q * 10 ^ k + r / 10 by omega, show (10 * (q * 10 ^ k) + r) % 10 = r % 10 by omega, dg_pad k q (r / 10) hq hr, List.append_assoc]
    rfl
theorem zf : ∀ (k r : Nat), r < 10 ^ (k + 1) → List.replicate (k + 1 - (dg r).length) 48 ++ dg r = pad (k + 1) r
  | 0, r, h => by
    have h : r < 10 := by simpa using h
    rw [dg_lt h]
    show [48 + r] = [48 + r % 10]
    rw [Nat.mod_eq_of_lt h]
  | k + 1, r, h => by
    by_cases c : r < 10
    · rw [dg_lt c]
      show List.replicate (k + 1 + 1 - 1) 48 ++ [48 + r] = pad (k + 1) (r / 10) ++ [48 + r % 10]
      rw [Nat.div_eq_of_lt c, Nat.mod_eq_of_lt c, pad_zero]
      rfl
    · have h2 : r / 10 < 10 ^ (k + 1) := by
        rw [Nat.pow_succ] at h
        omega
      rw [dg_step (by omega), List.length_append]
      show List.replicate (k + 1 + 1 - (_ + 1)) 48 ++ (_ ++ _) = pad (k + 1) (r / 10) ++ [48 + r % 10]
      rw [Nat.add_sub_add_right, ← List.append_assoc, zf k (r / 10) h2]
theorem dg_first (n : Nat) : ∃ c r, dg n = c :: r ∧ 48 ≤ c ∧ c ≤ 57 := by
  cases e : dg n with
  | nil => exact absurd e (dg_ne n)
  | cons c r =>
    have h := dg_all n c (by rw [e]; exact List.mem_cons_self ..)
    exact ⟨c, r, rfl, h⟩
theorem zfill_dg {k r : Nat} (h : r < 10 ^ (k + 1)) : Txt.zfill (S (dg r)) ((k + 1 : Nat) : Int) = S (pad (k + 1) r) := by
  have hl : (S (dg r)).length = (dg r).length := S_len _
  have hk := dg_len k r h
  rw [← zf k r h]
  unfold Txt.zfill
  rw [hl]
  by_cases c : (((k + 1 : Nat) : Int) ≤ ((dg r).length : Int))
  · rw [if_pos c, show k + 1 - (dg r).length = 0 by omega]
    rfl
  · rw [if_neg c]
    obtain ⟨d, t, e, h1, h2⟩ := dg_first r
    have e0 : (S (dg r)).cps[0]? = some d := by
      rw [e]
      rfl
    have e1 : zfilled (S (dg r)) (((k + 1 : Nat) : Int).toNat - (dg r).length) = Builtin.Str.padded (S (dg r)) (((k + 1 : Nat) : Int).toNat - (dg r).length) 0 48 := by
      unfold zfilled
      rw [e0]
      split
      · rename_i q
        cases q
        omega
      · rename_i q
        cases q
        omega
      · rfl
    rw [e1]
    unfold Builtin.Str.padded S
    rw [Int.toNat_natCast]
    congr 1
    apply Array.ext'
    simp
theorem dval_rep (d : List Nat) : ∀ k : Nat, digitsVal (d ++ List.replicate k 48) = digitsVal d * 10 ^ k
  | 0 => by simp
  | k + 1 => by
    rw [List.replicate_succ', ← List.append_assoc, digitsVal_snoc, dval_rep d k, Nat.pow_succ, Nat.sub_self, Nat.add_zero, Nat.mul_assoc]
theorem dval_zeros (d : List Nat) : ∀ k : Nat, digitsVal (List.replicate k 48 ++ d) = digitsVal d
  | 0 => rfl
  | k + 1 => by
    rw [List.replicate_succ, List.cons_append, digitsVal_zero]
    exact dval_zeros d k
theorem all_rep (k : Nat) : AllDigits (List.replicate k 48) := fun c hc => by
  have e := List.eq_of_mem_replicate hc
  omega
theorem all_app {a b : List Nat} (h1 : AllDigits a) (h2 : AllDigits b) : AllDigits (a ++ b) := fun c hc => by
  rcases List.mem_append.mp hc with h | h
  · exact h1 c h
  · exact h2 c h
/-- int(text) of a text of digits, with a sign -/
theorem int_dig {d : List Nat} (h : AllDigits d) (h1 : d ≠ []) (h2 : d.length ≤ 4300) : intText? (S d) = some ((digitsVal d : Nat) : Int) :=
  intText_digits (x := S d) h h1 (by rw [S_len]; exact h2)
theorem int_neg {d : List Nat} (h : AllDigits d) (h1 : d ≠ []) (h2 : d.length < 4300) : intText? (S (45 :: d)) = some (-((digitsVal d : Nat) : Int)) :=
  intText_neg (x := S (45 :: d)) rfl h h1 (by rw [S_len]; exact h2)
theorem int_plus {d : List Nat} (h : AllDigits d) (h1 : d ≠ []) (h2 : d.length < 4300) : intText? (S (43 :: d)) = some ((digitsVal d : Nat) : Int) := by
  have hs : ∀ c ∈ (S (43 :: d)).cps.toList, 33 ≤ c ∧ c < 128 := fun c hc => by
    have hc : c ∈ 43 :: d := hc
    rcases List.mem_cons.mp hc with e | e
    · omega
    · have := h c e
      omega
  have e1 : numTextOf (S (43 :: d)) = 43 :: d := by
    refine if_pos ?_
    rw [← Array.all_toList, List.all_eq_true]
    intro c hc
    exact decide_eq_true (hs c hc).2
  have e2 : numSeenOf (S (43 :: d)) = 43 :: d := by
    show (numTextOf (S (43 :: d))).takeWhile _ = _
    rw [e1]
    refine takeWhile_all fun c hc => ?_
    have := hs c hc
    exact bne_iff_ne.mpr (by omega)
  unfold intText?
  rw [e1, e2, if_pos (beq_self_eq_true _)]
  have e3 : (43 :: d).dropWhile blank = 43 :: d := dropWhile_of (by decide)
  have ec : core (43 :: d) = d := by
    unfold core
    rw [e3]
    show (d.reverse.dropWhile blank).reverse = d
    rw [dropWhile_digits h.reverse, List.reverse_reverse]
  rw [ec, e3, digits_of h h1]
  have hsz := push_size d #[]
  have hv := push_foldl d #[]
  show (if _ ≤ 4300 then some (worth false _) else none) = _
  rw [if_pos (by rw [hsz]; simp only [Array.size_empty]; omega)]
  unfold worth digitsVal
  rw [hv]
  rfl
/-- find of one sign -/
theorem find_none {l : List Nat} {c : Nat} (h : c ∉ l) : Txt.find (S l) (S [c]) = -1 := by
  rcases PyProof.Rows.find_whole (S l) (S [c]) with ⟨e, _⟩ | ⟨i, e, ⟨h1, h2⟩, _⟩
  · exact e
  · exfalso
    unfold Builtin.Str.subAt at h2
    have h3 := congrArg Array.toList (eq_of_beq h2)
    have h4 : ((l.drop i).take 1) = [c] := by
      simpa [S, Str.length] using h3
    have h5 : c ∈ (l.drop i).take 1 := by
      rw [h4]
      exact List.mem_singleton.mpr rfl
    exact h (List.mem_of_mem_drop (List.mem_of_mem_take h5))
theorem find_at {l r : List Nat} {c : Nat} (h : c ∉ l) : Txt.find (S (l ++ c :: r)) (S [c]) = (l.length : Int) := by
  have at_iff : ∀ i : Nat, StrLaws.At (S (l ++ c :: r)) (S [c]) (S (l ++ c :: r)).length i ↔ (l ++ c :: r)[i]? = some c := fun i => by
    unfold StrLaws.At Builtin.Str.subAt
    rw [beq_iff_eq, S_len, S_len]
    constructor
    · rintro ⟨h1, h2⟩
      have h3 := congrArg Array.toList h2
      have h4 : ((l ++ c :: r).drop i).take 1 = [c] := by
        simpa [S, Str.length] using h3
      have h5 := congrArg (fun z : List Nat => z[0]?) h4
      simpa [List.getElem?_take, List.getElem?_drop] using h5
    · intro h1
      obtain ⟨hi, e⟩ := List.getElem?_eq_some_iff.mp h1
      refine ⟨hi, ?_⟩
      apply Array.ext'
      have h4 : ((l ++ c :: r).drop i).take 1 = [c] := by
        rw [List.drop_eq_getElem_cons hi, e]
        rfl
      simpa [S, Str.length] using h4
  rcases PyProof.Rows.find_whole (S (l ++ c :: r)) (S [c]) with ⟨_, hn⟩ | ⟨i, e, h1, h2⟩
  · exact absurd ((at_iff l.length).mpr (by simp)) (hn l.length)
  · rw [e]
    have h1 := (at_iff i).mp h1
    have h3 : i = l.length := by
      rcases Nat.lt_trichotomy i l.length with q | q | q
      · rw [List.getElem?_append_left q] at h1
        exact absurd (List.mem_of_getElem? h1) h
      · exact q
      · exact absurd ((at_iff l.length).mpr (by simp)) (h2 _ q)
    rw [h3]
end

/-! ### texts: str and int of great numbers, a sign many times, join of a row turned round -/
section
open PyProof.Rows
theorem noDig {K : Frg} {h : Heap} (X : K.In h) (e : DigK K) : h.NoDigits := by
  have G := Heap.Ns.of_isNs (PySem.W.isNs_of_in X e.1)
  exact ⟨_, G, PySem.W.ns_none_of X G e.2⟩
theorem call_strW {X : Cx} (hc : X.calm = true) (e : DigK X.K) : CallR X (.type "str") (fun xs H Q => ∃ i : Int, xs = [.int i] ∧ i.natAbs < 10 ^ 4300 ∧ Q (.str (Str.ofString (toString i))) H) := by
  intro pins s σ H xs us Q I r h
  obtain ⟨i, rfl, hz, q⟩ := h
  obtain ⟨u, rfl, t, rfl⟩ := vals1 r
  exact str_of_int_or (I.ok.hd hc) (noDig I.kIn e) (fun _ => ⟨.str _, H, I.tok _, ⟨_, rfl⟩, q⟩) fun h => absurd h (by generalize 10 ^ 4300 = P at *; omega)
theorem op_repS {X : Cx} : OpR X (binaryOp .Mult) (fun x y H Q => ∃ (c : Nat) (n : Int), x = .str (S [c]) ∧ y = .int n ∧ -100000 ≤ n ∧ n ≤ 100000 ∧ Q (.str (S (List.replicate n.toNat c))) H) := by
  intro pins s σ H x y v u Q I rx ry h
  obtain ⟨c, n, rfl, rfl, h0, h1, q⟩ := h
  obtain ⟨t, rfl⟩ := rx
  obtain ⟨t', rfl⟩ := ry
  refine PySem.SB.mul (mulOk_of 1 100000 (Nat.le_refl 1) (by omega) (by omega) (by decide) (by decide)) fun t' k => ⟨.str _, H, I.tok _, ⟨_, rfl⟩, ?_⟩
  have e : Txt.mul (S [c]) n = S (List.replicate n.toNat c) := by
    unfold Txt.mul
    by_cases c1 : n < 1
    · rw [if_pos c1, show n.toNat = 0 by omega]
      rfl
    · rw [if_neg c1]
      by_cases c2 : n = 1
      · subst c2
        rfl
      · have b : (n == 1 || (S [c]).length == 0) = false := by
          have : (n == 1) = false := by simpa using c2
          rw [this]
          rfl
        rw [b, if_neg Bool.false_ne_true]
        have g : ∀ (k : Nat) (a : Array Nat), (List.replicate k (S [c]).cps).foldl (· ++ ·) a = a ++ (List.replicate k c).toArray := by
          intro k
          induction k with
          | zero => intro a; simp
          | succ k ih =>
            intro a
            rw [List.replicate_succ, List.foldl_cons, ih, List.replicate_succ]
            apply Array.ext'
            simp [S]
        rw [g]
        simp [S]
  rw [e]
  exact q
theorem join_rev {prog : Program} {w : World} {A : Around} {E : Value → Shared → Prop} {s : Shared} {x : Str} {t : Tok} {it l : Addr} {items : Array Value} {ys : List Str} {Q : Value → Shared → Prop}
    (hh : A.handled = none) (hit : s.heap.IsRevIter it l ((items.size : Int) - 1)) (hl : s.heap.IsList l items) (hne : l ≠ it) (hn : items.size ≤ sizeLine)
    (hi : ∀ acc : Array Value, ItemsOf (fun i v => items[items.size - 1 - i]? = some v) acc items.size → StrsAre acc.toList ys) (hok : (ys.map (·.length)).sum + ys.length * x.length ≤ 16777216)
    (hq : ∀ h' t' k, (∀ b o, b ≠ it → s.heap.get? b = some o → h'.get? b = some o) → Q (.str (Txt.join x ys) t') { s with heap := h', toks := k }) :
    wpAny (model prog w) A (call (.builtin "str.join") [.str x t, .ref it]) Q E s := by
  refine wpAny_call (codeAny_call_builtin F.slot_str_join.plain F.entry_str_join (F.slot_str_join.check _ _ _ _ _ _ _ _ (typeIs_str _ _ _) (F.args_str_join_2 _ _) ?_))
  rw [join_tree_other]
  refine wpAny_bind (wpAny_typeOf hit.typeIs ?_)
  show wpAny _ A.in1 ((pyIter (.ref it)).tryCatch _ >>= fun it => collect it >>= fun items => joinTail x items) _ _ s
  refine wpAny_bind (wpAny_tryCatch (wpAny_pyIter_revIter hit ?_))
  refine wpAny_bind (RT.collect_rev (A := A.in1) hh hit hl hne hn fun h' tk acc hk hacc => ?_)
  obtain ⟨l', hl', ht⟩ := strsAre_values (hi acc hacc)
  subst ht
  rw [hl']
  have hok' := joinOk_of hok
  unfold JoinOk at hok'
  rw [Bool.not_eq_true'] at hok'
  have g : Gives (joinTail x (strValues l')) (joinMade x l') := by
    have g0 := gives_joinTail x l' hok'
    cases l' with
    | nil => exact g0
    | cons p r => cases r with
      | nil => exact g0
      | cons q r' => exact g0
  exact g prog w A (wants Q E) _ (post_join l' ⟨joinFit_length hok', fun t' k => hq h' t' k hk⟩)
def tJoinRev (K : Frg) (to te : TE) : TE := fun σ H Q => to σ H fun x H1 => (∃ a, x = .str a) ∧ te σ H1 fun v H2 => ∃ (a : Str) (q : Addr) (ys : List Str), x = .str a ∧ v = .ref q ∧ SqL K H2 q (ys.map V.str) ∧
  (ys.reverse.map (·.length)).sum + ys.reverse.length * a.length ≤ 16777216 ∧ Q (.str (Txt.join a ys.reverse)) H2
theorem pe_joinRev {X : Cx} {o e : Expr} {to te : TE} {apos pos p pos2 : Pos} (hc : X.calm = true) (hg : Gl X "reversed") (hm : X.mg "reversed" = none) (ho : PE X o to) (he : PE X e te)
    (hs1 : starEach [.Call (.Name "reversed" p) [e] [] pos2] X.env = [(false, eval (.Call (.Name "reversed" p) [e] [] pos2) X.env)] := by rfl) (hs : starEach [e] X.env = (false, eval e X.env) :: starEach [] X.env := by rfl)
    (hbase : attributeBase o "join" X.env (eval o X.env) = eval o X.env := by rfl) (hline : (apos.endLine == pos.line) = true := by rfl) :
    PE X (.Call (.Attribute o "join" apos) [.Call (.Name "reversed" p) [e] [] pos2] [] pos) (tJoinRev X.K to te) := by
  refine ⟨fun pins s σ H Q I h => ?_⟩
  refine PySem.Call_method1 hbase hs1 hline (thn (ho.run pins s σ H _ I h) fun v s1 ⟨x, H1, I1, r1, q1⟩ => ?_)
  obtain ⟨⟨a, rfl⟩, q1⟩ := q1
  obtain ⟨t, rfl⟩ := _root_.id r1
  refine ⟨"str", _, F.plainAttrs_str, F.slot_str_join, F.type_str_join, typeIs_str _ _ _, (fun _ e => nomatch e), Calls.callWith_builtin rfl (Calls.evalArgs_plain (Calls.spliced_cons ?_))⟩
  refine Call_ (ld_blt I1 hg hm PyProof.Rows.boot_reversed (PyProof.Rows.callWith_type1 (args_cons (thn (he.run pins s1 σ H1 _ I1 q1) fun u s2 ⟨v, H2, I2, r2, q2⟩ => args_nil ?_) hs) hs rfl))
  obtain ⟨a', q, ys, ea, rfl, hq, hz, q2⟩ := q2
  cases ea
  obtain rfl : u = Value.ref q := r2
  obtain ⟨its, rv, p', hsz⟩ := I2.list hq
  refine call_reversed_list p'.isList (Calls.spliced_nil ?_)
  have k0 : ∀ b o, s2.heap.get? b = some o → (s2.heap.push (revObj q ((its.toArray.size : Int) - 1))).get? b = some o := fun b o e => Heap.get?_push_of_some _ e
  have I3 : Inv X pins σ H2 { s2 with heap := s2.heap.push (revObj q ((its.toArray.size : Int) - 1)) } := I2.kept (t' := s2.toks) k0
  obtain ⟨f0, f1, f2, f3, f4, f5⟩ := I2.fpOk (H' := H2) (b := s2.heap.objs.size) (Nat.le_refl _) (I2.hok.fresh (Nat.le_refl _))
  have hl := p'.isList
  obtain ⟨ol, hol, _⟩ := id hl
  have hne : q ≠ s2.heap.objs.size := Nat.ne_of_lt (Heap.lt_size hol)
  have hn : its.toArray.size ≤ sizeLine := by rw [List.size_toArray, ← rv.length]; exact hsz
  refine join_rev (s := { s2 with heap := s2.heap.push (revObj q ((its.toArray.size : Int) - 1)) }) (I2.ok.hd hc) ⟨_, Heap.get?_push_size _ rfl, rfl, rfl⟩ (hl.push _) hne hn (fun acc hacc => ?_) hz fun h' t' k hk => ?_
  · have r3 := RT.vals_rev rv hacc
    rw [← List.map_reverse] at r3
    exact strs_of_vals r3
  · exact ⟨.str _, H2, I3.turned (t' := k) (fun b o hb e => hk b o hb e) f0 f1 f3 f4 f5, ⟨t', rfl⟩, q2⟩
end
/-! int of a text of up to 4,300 digits -/
section
open PySem.Calls PySem.NumText PyProof.Rows PySem.W
theorem wp_textW {M : Model} {A : Around} {E : Value → Shared → Prop} {s : Shared} {Q : Value → Shared → Prop} {v : Value} {text : List Nat} {n : Int} (hn : s.heap.NoDigits)
    (hs : decide ((text.takeWhile (· != 0)).length ≤ 640) = false) (hr : (int_private% "readNumeral") 4300 10 (text.takeWhile (· != 0)) = (int_private% "Numeral.value") n)
    (ha : ((text.takeWhile (· != 0)).length == text.length) = true) (h : Q (.int n s.toks) { s with toks := s.toks + 1 }) :
    wpAny M A ((int_private% "intFromText") v text 10) Q E s := by
  obtain ⟨mc, hns, hnone⟩ := hn
  obtain ⟨hp, g, d, tk, os⟩ := s
  have key : ∀ {A' : Around} {E' : Value → Shared → Prop} {Q' : Nat → Shared → Prop}, Q' 4300 ⟨hp, g, d, tk, os⟩ → wpAny M A' Builtin.intMaxStrDigits Q' E' ⟨hp, g, d, tk, os⟩ := fun q => by
    unfold Builtin.intMaxStrDigits
    refine wpAny_bind (wpAny_nsGet hns ?_)
    rw [hnone]
    exact wpAny_pure q
  repeat (any_goals (first
    | assumption
    | (with_reducible refine wpAny_ite_false hs ?_)
    | (with_reducible refine wpAny_ite_true (decide_eq_true ha) ?_)
    | (with_reducible refine key ?_)
    | wp_step))
  all_goals (try rw [hr])
  all_goals (try dsimp only)
  repeat (any_goals (first
    | assumption
    | (with_reducible refine wpAny_ite_false hs ?_)
    | (with_reducible refine wpAny_ite_true (decide_eq_true ha) ?_)
    | wp_step))
theorem meets_textW {x : PySem.Str} {u : Tok} {n : Int} (hl : x.length ≤ sizeLine) (hn : PySem.intText? x = some n) :
    Meets (Builtin.«int.__new__» ⟨[.type "int", .str x u], []⟩) (fun _ R s => s.heap.NoDigits ∧ R (.ok (.ret (.int n s.toks))) { s with toks := s.toks + 1 }) :=
  .of_wp fun prog w A R s h => by
    obtain ⟨hp, g, d, tk, os⟩ := s
    obtain ⟨hd, h⟩ := h
    have f1 := F.conv_sub_int
    have f2 := F.madeHere_int
    have f3 := KIN.str_int
    have f4 := KIN.str_idx
    have f5 := KIN.str_trunc
    have f6 : typeOf (.str x u) = pure (.type "str") := rfl
    have hr : (int_private% "readNumeral") (numLimitOf x) 10 (numSeenOf x) = (int_private% "Numeral.value") n ∧ ((numSeenOf x).length == (numTextOf x).length) = true := by
      rcases readAny x hl with ⟨m, h1, h2, h3⟩ | ⟨h1, _⟩
      · rw [hn] at h1
        injection h1 with h1
        subst h1
        exact ⟨h3, h2⟩
      · rw [hn] at h1
        cases h1
    have key : ∀ {A' : Around} {E' : Value → Shared → Prop} {Q' : Value → Shared → Prop} {v : Value}, Q' (.int n tk) ⟨hp, g, d, tk + 1, os⟩ → wpAny (model prog w) A' ((int_private% "intFromText") v (numTextOf x) 10) Q' E' ⟨hp, g, d, tk, os⟩ := fun q => by
      by_cases hlen : (numSeenOf x).length ≤ 640
      · have e : numLimitOf x = 0 := if_pos hlen
        rw [e] at hr
        exact KIN.wp_text hlen hr.1 hr.2 q
      · have e : numLimitOf x = 4300 := if_neg hlen
        rw [e] at hr
        exact wp_textW hd (decide_eq_false hlen) hr.1 hr.2 q
    clear hr hl hn
    repeat (any_goals (first
      | assumption
      | (with_reducible refine key ?_)
      | wp_step))
    all_goals first | exact ⟨_, rfl, h⟩ | skip
theorem call_intW {X : Cx} (e : DigK X.K) : CallR X (.type "int") (fun xs H Q => ∃ (a : Str) (n : Int), xs = [.str a] ∧ PySem.intText? a = some n ∧ a.length ≤ 16777216 ∧ Q (.int n) H) := by
  intro pins s σ H xs us Q I r h
  obtain ⟨a, n, rfl, hn, hl, q⟩ := h
  obtain ⟨u, rfl, t, rfl⟩ := vals1 r
  exact call_int_1 (meets_textW (by rw [sizeLine_eq]; exact hl) hn) ⟨noDig I.kIn e, rfl, ⟨.int n, H, I.tok _, ⟨_, rfl⟩, q⟩⟩
end
/-! readings -/
section
variable {σ : St} {H : Hp} {Q : VK} {K : Frg}
theorem r_joinRev {to te : TE} (h : to σ H fun x H1 => (∃ a, x = .str a) ∧ te σ H1 fun v H2 => ∃ (a : Str) (q : Addr) (ys : List Str), x = .str a ∧ v = .ref q ∧ SqL K H2 q (ys.map V.str) ∧
  (ys.reverse.map (·.length)).sum + ys.reverse.length * a.length ≤ 16777216 ∧ Q (.str (Txt.join a ys.reverse)) H2) : tJoinRev K to te σ H Q := h
theorem r_addS {a b : List Nat} (hl : a.length + b.length ≤ 1000000) (h : Q (.str (S (a ++ b))) H) : ∃ i j, V.str (S a) = .str i ∧ V.str (S b) = .str j ∧ i.length + j.length ≤ sizeLine ∧ Q (.str (i ++ j)) H :=
  ⟨_, _, rfl, rfl, by rw [S_len, S_len, sizeLine_eq]; omega, by rw [S_cat]; exact h⟩
theorem r_ixS {a : List Nat} {i c : Nat} (hl : a.length ≤ 1000000) (e : a[i]? = some c) (h : Q (.str (S [c])) H) : rIxS (.str (S a)) (.int (i : Int)) H Q :=
  ⟨_, _, c, rfl, rfl, by rw [S_len, sizeLine_eq]; omega, atI_nat e, h⟩
theorem r_slS {a b : List Nat} {lo hi : Option Int} (hl : a.length ≤ 1000000) (e : cutS (S a) lo hi = S b) (h : Q (.str (S b)) H) : rSlS (.str (S a)) lo hi H Q :=
  ⟨_, rfl, by rw [S_len, sizeLine_eq]; omega, by rw [e]; exact h⟩
theorem cutS_from {a : List Nat} {i : Int} (h : 0 ≤ i) : cutS (S a) (some i) none = S (a.drop i.toNat) := by
  rw [C8.cutS_slice]
  exact slice_from h
theorem cutS_to {a : List Nat} {i : Int} (h : 0 ≤ i) : cutS (S a) none (some i) = S (a.take i.toNat) := by
  rw [C8.cutS_slice]
  exact slice_to h
theorem r_lenS {d : List Nat} {R : Str → Prop} (hl : d.length ≤ 1000000) (h : R (S d)) : ∃ z, [V.str (S d)] = [V.str z] ∧ z.length ≤ sizeLine ∧ R z :=
  ⟨_, rfl, by rw [S_len, sizeLine_eq]; omega, h⟩
theorem r_add {x y : Str} {a b : List Nat} {R : Str → Str → Prop} (ex : x = S a) (ey : y = S b) (hl : a.length + b.length ≤ 1000000) (h : R (S a) (S b)) : ∃ i j, V.str x = .str i ∧ V.str y = .str j ∧ i.length + j.length ≤ sizeLine ∧ R i j := by
  subst ex ey
  exact ⟨_, _, rfl, rfl, by rw [S_len, S_len, sizeLine_eq]; omega, h⟩
theorem r_rep {x : Str} {n : Int} {c : Nat} {R : Nat → Int → Prop} (ex : x = S [c]) (h0 : -100000 ≤ n) (h1 : n ≤ 100000) (h : R c n) : ∃ (c : Nat) (m : Int), V.str x = .str (S [c]) ∧ V.int n = .int m ∧ -100000 ≤ m ∧ m ≤ 100000 ∧ R c m :=
  ⟨c, n, by rw [ex], rfl, h0, h1, h⟩
theorem r_slF {a : List Nat} {i : Int} (h0 : 0 ≤ i) (hl : a.length ≤ 1000000) (h : Q (.str (S (a.drop i.toNat))) H) : rSlS (.str (S a)) (some i) none H Q := r_slS hl (cutS_from h0) h
theorem r_slT {a : List Nat} {i : Int} (h0 : 0 ≤ i) (hl : a.length ≤ 1000000) (h : Q (.str (S (a.take i.toNat))) H) : rSlS (.str (S a)) none (some i) H Q := r_slS hl (cutS_to h0) h
end

/-! ### digits_of -/

def sp_digits_of (K : Frg) : Sp := sp1 fun a H Q _ => ∃ n : Nat, a = .int (n : Int) ∧ n < 10 ^ 4000 ∧ ∀ H', Same H H' → Q (.str (S (dg n))) H'
theorem flat_len : ∀ (ps : List (List Nat)), (ps.map (·.length)).sum = ps.flatten.length
  | [] => rfl
  | p :: ps => by
    rw [List.map_cons, List.sum_cons, List.flatten_cons, List.length_append, flat_len ps]
theorem joinL_nil (ps : List (List Nat)) : Txt.join (S []) (ps.map S) = S ps.flatten := by
  rw [join_S]
  congr 2
  induction ps with
  | nil => rfl
  | cons p ps ih =>
    cases ps with
    | nil => simp [TL.joinL]
    | cons q ps =>
      show p ++ ([] ++ TL.joinL [] (q :: ps)) = _
      rw [ih, List.nil_append]
      rfl
theorem lt4000 {n : Nat} (h : n < 10 ^ 4000) : (dg n).length ≤ 4001 := dg_lenP h
theorem log_lt {i : Int} {k : Nat} (h : i.natAbs < 2 ^ k) (hk : k ≤ 1920) (h0 : 0 < k) : i.natAbs.log2 < 1920 := by
  by_cases e : i.natAbs = 0
  · rw [e]
    decide
  · exact Nat.lt_of_lt_of_le ((Nat.log2_lt e).mpr h) hk
section
variable {P : Program} {w : World} {K : PySem.W.Frag} {mg : Str → Option Value} {base : Heap} {f : Addr} {fd : FuncData}
theorem ok_digits_of (F : FunD K "digits_of" "digits_of" (defArgs s_digits_of) (defBody s_digits_of) (defScope s_digits_of) [] [] (glAd "digits_of" K) fd) (m : mg "digits_of" = some (.ref (glAd "digits_of" K))) (nb : Nm K mg) : Cal P w K mg base 1 "digits_of" (sp_digits_of K) [] := by
  refine calD F m sc_digits_of (fun _ _ _ _ _ _ us hl => match us, hl with | [_], _ => rfl) len1 (fun cdv A outer s H vs Q E hr h => ⟨_, (pss_cons (ps_set (i := 1) sc_digits_of.nd rfl (Or.inl rfl) (pe_lst pa_nil))
    (pss_cons (ps_while PassesOwn.never (pt_cmpR op_ge (pv 0) (pe_gc rfl nb.g_PIECE) (nomark _))
    (pss_cons (ps_asg (pe_callB call_divmodW (by rfl) nb.divmod (by decide +kernel) (pa_cons (pv 0) (pa_cons (pe_gc rfl nb.g_PIECE) pa_nil))) (pg_tup rfl (pgs_cons (pg_name (i := 0) sc_digits_of.nd rfl (Or.inl rfl)) (pgs_cons (pg_name (i := 2) sc_digits_of.nd rfl (Or.inl rfl)) pgs_nil))))
    (pss_one (ps_expr (pe_bm PySem.F.plainAttrs_list PySem.F.slot_list_append PySem.F.type_list_append mt_append (pv 1) (pa_cons (pe_bm PySem.F.plainAttrs_str PySem.F.slot_str_zfill PySem.F.type_str_zfill mt_zfill (pe_callTy call_str_int (by rfl) nb.str (by decide +kernel) (pa_cons (pv 2) pa_nil)) (pa_cons (pe_gc rfl nb.g_PIECE_DIGITS) pa_nil)) pa_nil))))))
    (pss_cons (ps_expr (pe_bm PySem.F.plainAttrs_list PySem.F.slot_list_append PySem.F.type_list_append mt_append (pv 1) (pa_cons (pe_callTy call_str_int (by rfl) nb.str (by decide +kernel) (pa_cons (pv 0) pa_nil)) pa_nil)))
    (pss_one (ps_ret (pe_joinRev rfl rfl nb.reversed pe_str (pv 1))))))), ?_⟩)
  obtain ⟨_, rfl, n, rfl, hn, h⟩ := h
  have hl := lt4000 hn
  generalize 10 ^ 4000 = big at hn
  walk_at "rd"
  refine ⟨Nat.zero_le _, fun p hp => ?_⟩
  walk_at "rd"
  refine r_while (fun k σ H' => ∃ (ps : List (List Nat)) (y : Option V), σ = [some (.int (k : Int)), some (.ref p), y] ∧ dg n = dg k ++ ps.reverse.flatten ∧ H' p = some (.lst ((ps.map S).map V.str)) ∧ Same H H' ∧ ps.length ≤ ps.reverse.flatten.length) n ⟨[], none, rfl, by simp, upd_same, same_upd hp _, Nat.le_refl _⟩ ?_
  rintro k σ H1 ⟨ps, y, rfl, e, hp1, s1, hps⟩
  have hlen : (dg k).length + ps.reverse.flatten.length = (dg n).length := by rw [e, List.length_append]
  walk_at "rd"
  refine r_ite (fun c => ?_) (fun c => ?_)
  · refine r_turn ?_
    walk_at "rd"
    refine ⟨_, _, rfl, ⟨by decide, PyProof.noPylong_of_log2 (by decide +kernel)⟩, fun q hq => ?_⟩
    have s2 := same_upd hq (.tup [.int ((k : Int) / 10000000000000000000000000000000000000000000000000000000000000000), .int ((k : Int) % 10000000000000000000000000000000000000000000000000000000000000000)])
    refine r_gtup (SqT.of upd_same) rfl ?_
    walk_at "rd"
    refine ⟨tyL (s2 _ _ hp1), ?_⟩
    walk_at "rd"
    have e64 : (10 : Nat) ^ 64 = 10000000000000000000000000000000000000000000000000000000000000000 := by decide
    have er : (k : Int) % 10000000000000000000000000000000000000000000000000000000000000000 = ((k % 10 ^ 64 : Nat) : Int) := by
      rw [e64]
      omega
    have eq : (k : Int) / 10000000000000000000000000000000000000000000000000000000000000000 = ((k / 10 ^ 64 : Nat) : Int) := by
      rw [e64]
      omega
    have hr : k % 10 ^ 64 < 10 ^ (63 + 1) := Nat.mod_lt _ (Nat.pow_pos (by decide))
    have hq0 : 0 < k / 10 ^ 64 := Nat.div_pos (by rw [e64]; omega) (Nat.pow_pos (by decide))
    have hk : dg k = dg (k / 10 ^ 64) ++ pad 64 (k % 10 ^ 64) := by
      have q := dg_pad 64 (k / 10 ^ 64) (k % 10 ^ 64) hq0 hr
      rw [Nat.mul_comm, Nat.div_add_mod] at q
      exact q
    have hlt : k / 10 ^ 64 < k := Nat.div_lt_self (by rw [e64] at hq0; omega) (by decide)
    rw [er, eq] at *
    refine ⟨?_, ?_⟩
    · refine log_lt (k := 256) ?_ (by decide) (by decide)
      rw [Int.natAbs_natCast]
      exact Nat.lt_trans hr (by decide)
    rw [str_dg]
    refine ⟨rfl, ?_⟩
    walk_at "rd"
    refine ⟨_, _, rfl, rfl, by decide, ?_⟩
    rw [show (64 : Int) = ((63 + 1 : Nat) : Int) from rfl, zfill_dg hr]
    walk_at "rd"
    refine r_app (s2 _ _ hp1) (small4k (by rw [List.length_map, List.length_map]; have := List.length_reverse (as := ps); have := dg_pos k; omega)) ?_
    walk_at "rd"
    refine ⟨k / 10 ^ 64, hlt, ps ++ [pad 64 (k % 10 ^ 64)], _, rfl, ?_, ?_, ?_, ?_⟩
    · rw [e, hk, List.reverse_append]
      simp
    · rw [upd_same]
      simp
    · intro b o hb
      rw [upd_ne (ne_of_none hb hp)]
      exact s2 _ _ (s1 _ _ hb)
    · rw [List.reverse_append, List.length_append]
      have := pad_len 64 (k % 10 ^ 64)
      simp only [List.reverse_cons, List.reverse_nil, List.nil_append, List.cons_append, List.flatten_cons, List.length_append, this, List.length_cons, List.length_nil]
      omega
  · walk_at "rd"
    refine ⟨tyL hp1, ?_⟩
    walk_at "rd"
    refine ⟨log_lt (k := 256) (by rw [Int.natAbs_natCast]; omega) (by decide) (by decide), ?_⟩
    walk_at "rd"
    rw [str_dg]
    refine r_app hp1 (small4k (by rw [List.length_map, List.length_map]; have := dg_pos k; omega)) ?_
    walk_at "rd"
    refine r_joinRev ?_
    walk_at "rd"
    refine ⟨⟨_, rfl⟩, ?_⟩
    walk_at "rd"
    have e2 : (ps.map S).map V.str ++ [V.str (S (dg k))] = ((ps ++ [dg k]).map S).map V.str := by simp
    refine ⟨S [], p, (ps ++ [dg k]).map S, rfl, rfl, SqL.of (by rw [upd_same, e2]), ?_, ?_⟩
    · rw [← List.map_reverse, lens, flat_len, List.length_map]
      simp only [List.reverse_append, List.reverse_cons, List.reverse_nil, List.nil_append, List.cons_append, List.flatten_cons, List.length_append, List.length_cons, List.length_reverse]
      show _ + _ * 0 ≤ _
      omega
    · rw [← List.map_reverse, joinL_nil]
      have e3 : (ps ++ [dg k]).reverse.flatten = dg n := by
        rw [e, List.reverse_append]
        rfl
      rw [e3]
      refine h _ fun b o hb => ?_
      rw [upd_ne (ne_of_none hb hp)]
      exact s1 _ _ hb
end

local macro_rules | `(tactic| walk_at "rd1") => `(tactic| first
  | (with_reducible refine r_callS ?_)
  | (with_reducible refine r_methS ?_)
  | (with_reducible refine r_raz ?_)
  | (with_reducible refine r_ost ?_)
  | (with_reducible refine r_xf ?_))
local macro_rules | `(tactic| walk_at "ri1") => `(tactic| first
  | (with_reducible refine r_callS ?_)
  | (with_reducible refine r_methS ?_)
  | (with_reducible refine r_raz ?_)
  | (with_reducible refine r_ost ?_)
  | (with_reducible refine r_xf ?_))
local macro_rules | `(tactic| walk_at "rh1") => `(tactic| first
  | (with_reducible refine r_callS ?_)
  | (with_reducible refine r_methS ?_)
  | (with_reducible refine r_raz ?_)
  | (with_reducible refine r_ost ?_)
  | (with_reducible refine r_xf ?_))

/-! ### nested values, and where they stand -/
theorem hu65 {A : Around} {k : Nat} (hr : Room k A) : A.units + 65 < cLine := by
  have := hr.un
  omega
theorem ps_never {X : Cx} {st : Stmt} : PS X st (fun _ _ _ => False) := ⟨fun _ _ _ _ _ _ h => h.elim⟩
inductive Vl where
  | lf (k : Str) (r : List PyData)
  | ls (xs : List Vl)
  | mp (es : List (List Int × Vl))
def kd (k : List Int) : PyData := .tuple (k.map PyData.int)
mutual
def Vl.dat : Vl → PyData
  | .lf k r => .tuple (.str k :: r)
  | .ls xs => .tuple [.str "list", .tuple (datL xs)]
  | .mp es => .tuple [.str "map", .tuple (datM es)]
def datL : List Vl → List PyData
  | [] => []
  | x :: xs => x.dat :: datL xs
def datM : List (List Int × Vl) → List PyData
  | [] => []
  | (k, v) :: es => .tuple [kd k, v.dat] :: datM es
end
/-- leaves -/
inductive Lf : Str → List PyData → Prop
  | null : Lf "null" []
  | truth (b : Bool) : Lf "truth" [.bool b]
  | number (m e : Int) : Lf "number" [.int m, .int e]
  | bytes (os : List Int) (h : os.length ≤ 300) : Lf "bytes" [kd os]
  | text (ps : List Int) (h : ps.length ≤ 200) : Lf "text" [kd ps]
mutual
def Vl.ok : Nat → Vl → Prop
  | _, .lf k r => Lf k r
  | 0, .ls _ => False
  | n + 1, .ls xs => xs.length ≤ 49 ∧ vokL n xs
  | 0, .mp _ => False
  | n + 1, .mp es => es.length ≤ 49 ∧ (es.map (·.1)).Pairwise (fun x y => HT.lexLt x y = true) ∧ (∀ e ∈ es, e.1.length ≤ 200) ∧ vokM n es
def vokL : Nat → List Vl → Prop
  | _, [] => True
  | n, x :: xs => x.ok n ∧ vokL n xs
def vokM : Nat → List (List Int × Vl) → Prop
  | _, [] => True
  | n, (_, v) :: es => v.ok n ∧ vokM n es
end
theorem vokL_app : ∀ {n : Nat} {xs ys : List Vl}, vokL n xs → vokL n ys → vokL n (xs ++ ys)
  | _, [], _, _, h => h
  | _, x :: xs, _, h1, h2 => ⟨h1.1, vokL_app h1.2 h2⟩
theorem vokL_mem : ∀ {n : Nat} {xs : List Vl}, vokL n xs → ∀ x ∈ xs, x.ok n
  | _, [], _, x, h => absurd h (by simp)
  | _, y :: ys, h, x, hx => by
    rcases List.mem_cons.mp hx with e | e
    · rw [e]
      exact h.1
    · exact vokL_mem h.2 x e
theorem vokM_mem : ∀ {n : Nat} {es : List (List Int × Vl)}, vokM n es → ∀ e ∈ es, e.2.ok n
  | _, [], _, x, h => absurd h (by simp)
  | _, (k, v) :: ys, h, x, hx => by
    rcases List.mem_cons.mp hx with e | e
    · rw [e]
      exact h.1
    · exact vokM_mem h.2 x e
theorem vokM_of : ∀ {n : Nat} {es : List (List Int × Vl)}, (∀ e ∈ es, e.2.ok n) → vokM n es
  | _, [], _ => trivial
  | _, (k, v) :: ys, h => ⟨h _ (List.mem_cons_self ..), vokM_of fun e he => h e (List.mem_cons_of_mem _ he)⟩
theorem datL_app : ∀ (xs ys : List Vl), datL (xs ++ ys) = datL xs ++ datL ys
  | [], _ => rfl
  | x :: xs, ys => congrArg (x.dat :: ·) (datL_app xs ys)
theorem datM_map : ∀ (es : List (List Int × Vl)), datM es = es.map fun e => .tuple [kd e.1, e.2.dat]
  | [] => rfl
  | (k, v) :: es => congrArg (PyData.tuple [kd k, v.dat] :: ·) (datM_map es)
theorem datL_map : ∀ (xs : List Vl), datL xs = xs.map Vl.dat
  | [] => rfl
  | x :: xs => congrArg (x.dat :: ·) (datL_map xs)
mutual
inductive Tp (H : Hp) : V → PyData → Prop
  | non : Tp H .non .none
  | bl (b : Bool) : Tp H (.bl b) (.bool b)
  | int (i : Int) : Tp H (.int i) (.int i)
  | str (x : Str) : Tp H (.str x) (.str x)
  | tup {a : Addr} {xs : List V} {ds : List PyData} : H a = some (.tup xs) → TpAll H xs ds → Tp H (.ref a) (.tuple ds)
inductive TpAll (H : Hp) : List V → List PyData → Prop
  | nil : TpAll H [] []
  | cons {v : V} {vs : List V} {d : PyData} {ds : List PyData} : Tp H v d → TpAll H vs ds → TpAll H (v :: vs) (d :: ds)
end
/-- tuples stay -/
def Tk (H H' : Hp) : Prop := ∀ a xs, H a = some (.tup xs) → H' a = some (.tup xs)
theorem Tk.refl (H : Hp) : Tk H H := fun _ _ h => h
theorem Tk.trans {H H1 H2 : Hp} (a : Tk H H1) (b : Tk H1 H2) : Tk H H2 := fun c xs h => b c xs (a c xs h)
theorem Same.tk {H H' : Hp} (s : Same H H') : Tk H H' := fun a xs h => s a _ h
theorem tk_put {H : Hp} {a : Addr} {xs : List V} {o : HO} (h : H a = some (.lst xs)) : Tk H (upd H a o) := fun b ys hb => by
  rw [upd_ne (fun e => by rw [e, h] at hb; cases hb)]
  exact hb
theorem tk_but {H H' : Hp} {a : Addr} {xs : List V} (h : H a = some (.lst xs)) (k : ∀ b o, b ≠ a → H b = some o → H' b = some o) : Tk H H' := fun b ys hb => k b _ (fun e => by rw [e, h] at hb; cases hb) hb
theorem keep_tk {K : Frg} {S : SC} {H H' : Hp} (L : LS K S H) (k : Keep S H H') : Tk H H' := by
  obtain ⟨k1, l, f, e⟩ := L.st
  exact tk_but e fun b o n h => k b o n h
mutual
theorem Tp.tk {H H' : Hp} (k : Tk H H') : ∀ (d : PyData) (v : V), Tp H v d → Tp H' v d
  | .none, _, h => by cases h; exact .non
  | .bool b, _, h => by cases h; exact .bl b
  | .int i, _, h => by cases h; exact .int i
  | .str x, _, h => by cases h; exact .str x
  | .tuple ds, _, h => by
    cases h with
    | tup h1 h2 => exact .tup (k _ _ h1) (TpAll.tk k ds _ h2)
  | .list ds, _, h => by cases h
  | .dict ds, _, h => by cases h
theorem TpAll.tk {H H' : Hp} (k : Tk H H') : ∀ (ds : List PyData) (vs : List V), TpAll H vs ds → TpAll H' vs ds
  | [], _, h => by cases h; exact .nil
  | d :: ds, _, h => by
    cases h with
    | cons h1 h2 => exact .cons (Tp.tk k d _ h1) (TpAll.tk k ds _ h2)
end
mutual
theorem Tp.dp {K : Frg} {H : Hp} : ∀ (d : PyData) (v : V), Tp H v d → Dp K H v d
  | .none, _, h => by cases h; exact .non
  | .bool b, _, h => by cases h; exact .bl b
  | .int i, _, h => by cases h; exact .int i
  | .str x, _, h => by cases h; exact .str x
  | .tuple ds, _, h => by
    cases h with
    | tup h1 h2 => exact .tup (SqT.of h1) (TpAll.dp ds _ h2)
  | .list ds, _, h => by cases h
  | .dict ds, _, h => by cases h
theorem TpAll.dp {K : Frg} {H : Hp} : ∀ (ds : List PyData) (vs : List V), TpAll H vs ds → DpAll K H vs ds
  | [], _, h => by cases h; exact .nil
  | d :: ds, _, h => by
    cases h with
    | cons h1 h2 => exact .cons (Tp.dp d _ h1) (TpAll.dp ds _ h2)
end
theorem tp_tup {H : Hp} {v : V} {ds : List PyData} (h : Tp H v (.tuple ds)) : ∃ a xs, v = .ref a ∧ H a = some (.tup xs) ∧ TpAll H xs ds := by
  cases h with
  | tup h1 h2 => exact ⟨_, _, rfl, h1, h2⟩
theorem tp_ints {H : Hp} : ∀ (ns : List Int), TpAll H (ns.map V.int) (ns.map PyData.int)
  | [] => .nil
  | n :: ns => .cons (.int n) (tp_ints ns)
theorem tp_intsB {H : Hp} : ∀ {xs : List V} (ns : List Int), TpAll H xs (ns.map PyData.int) → xs = ns.map V.int
  | _, [], h => by
    cases h
    rfl
  | _, n :: ns, h => by
    cases h with
    | cons h t =>
      cases h
      rw [tp_intsB ns t]
      rfl
theorem tp_kd {H : Hp} {a : Addr} {ns : List Int} (h : H a = some (.tup (ns.map V.int))) : Tp H (.ref a) (kd ns) := .tup h (tp_ints ns)
theorem tp_kdB {H : Hp} {v : V} {ns : List Int} (h : Tp H v (kd ns)) : ∃ a, v = .ref a ∧ H a = some (.tup (ns.map V.int)) := by
  obtain ⟨a, xs, rfl, h1, h2⟩ := tp_tup h
  rw [tp_intsB ns h2] at h1
  exact ⟨a, rfl, h1⟩
theorem tpAll_app {H : Hp} : ∀ {xs ys : List V} {ds es : List PyData}, TpAll H xs ds → TpAll H ys es → TpAll H (xs ++ ys) (ds ++ es)
  | _, _, _, _, .nil, h => h
  | _, _, _, _, .cons h1 h2, h => .cons h1 (tpAll_app h2 h)
theorem tpAll_len {H : Hp} : ∀ {xs : List V} {ds : List PyData}, TpAll H xs ds → xs.length = ds.length
  | _, _, .nil => rfl
  | _, _, .cons _ h => congrArg (· + 1) (tpAll_len h)
theorem tpAll_get {H : Hp} : ∀ {xs : List V} {ds : List PyData} {i : Nat} {x : V}, TpAll H xs ds → xs[i]? = some x → ∃ d, ds[i]? = some d ∧ Tp H x d
  | [], _, _, _, _, e => by simp at e
  | x :: xs, _, 0, _, .cons h t, e => by
    cases (show some x = some _ from e)
    exact ⟨_, rfl, h⟩
  | x :: xs, _, i + 1, _, .cons h t, e => by
    obtain ⟨d, e1, h1⟩ := tpAll_get (i := i) t (by simpa using e)
    exact ⟨d, by simpa using e1, h1⟩
theorem lay_kds : ∀ (ks : List (List Int)), PyData.canLayAll0 (ks.map kd) = true
  | [] => rfl
  | k :: ks => by
    show (PyData.canLay0 (kd k) && PyData.canLayAll0 (ks.map kd)) = true
    rw [lay_kds ks, show PyData.canLay0 (kd k) = true from lay_kd k]
    rfl
theorem depth_kd1 (k : List Int) : (kd k).depth ≤ 1 := depth_kd k
theorem depth_kds : ∀ (ks : List (List Int)), PyData.depthAll (ks.map kd) ≤ 1
  | [] => by simp [PyData.depthAll]
  | k :: ks => by
    have e := depth_kds ks
    have e2 := depth_kd k
    show max (PyData.depth (kd k)) (PyData.depthAll (ks.map kd)) ≤ 1
    exact Nat.max_le.mpr ⟨e2, e⟩
theorem shaped_kd (k : List Int) : SeqAt.shaped (kd k) = true := by
  unfold SeqAt.shaped
  rw [show PyData.canLay0 (kd k) = true from lay_kd k, decide_eq_true (Nat.le_trans (depth_kd1 k) (by decide))]
  rfl
theorem shaped_kds (ks : List (List Int)) : SeqAt.shaped (.list (ks.map kd)) = true := by
  unfold SeqAt.shaped
  rw [show PyData.canLay0 (.list (ks.map kd)) = true from lay_kds ks, decide_eq_true]
  · rfl
  · have e := depth_kds ks
    show PyData.depthAll (ks.map kd) + 1 ≤ 64
    omega
theorem eqv_kds (k : List Int) : ∀ (ks : List (List Int)), ((ks.map kd).any fun z => PyData.eqv z (kd k)) = decide (k ∈ ks)
  | [] => rfl
  | x :: ks => by
    show (PyData.eqv (kd x) (kd k) || ((ks.map kd).any fun z => PyData.eqv z (kd k))) = _
    rw [eqv_kds k ks, show PyData.eqv (kd x) (kd k) = decide (x = k) from eqv_kd x k]
    by_cases e : x = k
    · rw [e]
      simp
    · rw [decide_eq_false e]
      have : decide (k ∈ x :: ks) = decide (k ∈ ks) := decide_eq_decide.mpr ⟨fun q => by
        rcases List.mem_cons.mp q with q | q
        · exact absurd q.symm e
        · exact q, fun q => List.mem_cons_of_mem _ q⟩
      rw [this]
      rfl

/-! ### events of a value -/
inductive Ev where
  | op (m : Bool)
  | ky (k : List Int)
  | lf (k : Str) (r : List PyData)
  | cl
def kindOf_ (m : Bool) : Str := if m then "map" else "list"
def Ev.dat : Ev → PyData
  | .op m => .tuple [.str "open", .str (kindOf_ m)]
  | .ky k => .tuple [.str "key", kd k]
  | .lf k r => .tuple [.str "leaf", .tuple (.str k :: r)]
  | .cl => .tuple [.str "close"]
mutual
def Vl.evs : Vl → List Ev
  | .lf k r => [.lf k r]
  | .ls xs => .op false :: (evsL xs ++ [.cl])
  | .mp es => .op true :: (evsM es ++ [.cl])
def evsL : List Vl → List Ev
  | [] => []
  | x :: xs => x.evs ++ evsL xs
def evsM : List (List Int × Vl) → List Ev
  | [] => []
  | (k, v) :: es => .ky k :: (v.evs ++ evsM es)
end
theorem evsL_app : ∀ (xs ys : List Vl), evsL (xs ++ ys) = evsL xs ++ evsL ys
  | [], _ => rfl
  | x :: xs, ys => by
    show x.evs ++ evsL (xs ++ ys) = x.evs ++ evsL xs ++ evsL ys
    rw [evsL_app xs ys, List.append_assoc]
theorem evsM_app : ∀ (xs ys : List (List Int × Vl)), evsM (xs ++ ys) = evsM xs ++ evsM ys
  | [], _ => rfl
  | (k, v) :: xs, ys => by
    show Ev.ky k :: (v.evs ++ evsM (xs ++ ys)) = Ev.ky k :: (v.evs ++ evsM xs) ++ evsM ys
    rw [evsM_app xs ys, List.cons_append, List.append_assoc]
theorem evsL_one (x : Vl) : evsL [x] = x.evs := by
  show x.evs ++ [] = x.evs
  rw [List.append_nil]
theorem evsM_one (k : List Int) (x : Vl) : evsM [(k, x)] = .ky k :: x.evs := by
  show Ev.ky k :: (x.evs ++ []) = _
  rw [List.append_nil]
theorem evsL_sub {xs : List Vl} {i : Nat} {x : Vl} (h : xs[i]? = some x) : (evsL (xs.take i)).length + x.evs.length ≤ (evsL xs).length := by
  have e : xs = xs.take i ++ (x :: xs.drop (i + 1)) := by
    obtain ⟨hi, e⟩ := List.getElem?_eq_some_iff.mp h
    rw [← e, List.getElem_cons_drop, List.take_append_drop]
  have q := congrArg (fun l => (evsL l).length) e
  have q : (evsL xs).length = (evsL (xs.take i ++ (x :: xs.drop (i + 1)))).length := q
  rw [evsL_app, List.length_append] at q
  have q2 : (evsL (x :: xs.drop (i + 1))).length = x.evs.length + (evsL (xs.drop (i + 1))).length := List.length_append
  omega
theorem evsM_sub {xs : List (List Int × Vl)} {i : Nat} {k : List Int} {x : Vl} (h : xs[i]? = some (k, x)) : (evsM (xs.take i)).length + 1 + x.evs.length ≤ (evsM xs).length := by
  have e : xs = xs.take i ++ ((k, x) :: xs.drop (i + 1)) := by
    obtain ⟨hi, e⟩ := List.getElem?_eq_some_iff.mp h
    rw [← e, List.getElem_cons_drop, List.take_append_drop]
  have q := congrArg (fun l => (evsM l).length) e
  have q : (evsM xs).length = (evsM (xs.take i ++ ((k, x) :: xs.drop (i + 1)))).length := q
  rw [evsM_app, List.length_append] at q
  have q2 : (evsM ((k, x) :: xs.drop (i + 1))).length = x.evs.length + (evsM (xs.drop (i + 1))).length + 1 := congrArg (· + 1) List.length_append
  omega
def evD (es : List Ev) : List PyData := es.map Ev.dat
theorem evD_app (a b : List Ev) : evD (a ++ b) = evD a ++ evD b := List.map_append

theorem lf_kind {k : Str} {r : List PyData} (h : Lf k r) : k ≠ "list" ∧ k ≠ "map" := by
  cases h <;> exact ⟨by decide +kernel, by decide +kernel⟩
/-- all but the list at p stays -/
def Bt (p : Addr) (H H' : Hp) : Prop := ∀ b o, b ≠ p → H b = some o → H' b = some o
theorem Bt.trans {p : Addr} {H H1 H2 : Hp} (x : Bt p H H1) (y : Bt p H1 H2) : Bt p H H2 := fun b o n h => y b o n (x b o n h)
theorem Bt.of {p : Addr} {H H' : Hp} (s : Same H H') : Bt p H H' := fun b o _ h => s b o h
theorem Bt.put {p : Addr} {H : Hp} (o : HO) : Bt p H (upd H p o) := fun b u n h => (upd_ne n).trans h
theorem Bt.tk {p : Addr} {H H' : Hp} {xs : List V} (h : H p = some (.lst xs)) (k : Bt p H H') : Tk H H' := tk_but h k
theorem small16M {n : Nat} (h : n ≤ 16000100) : n < sizeLine := Nat.lt_of_le_of_lt h (by decide)
theorem cps_ne {a b : Str} (h : ¬ a = b) : decide (a = b) = false := decide_eq_false h
/-- what stands at a list, at a map -/
theorem tp_ls {H : Hp} {v : V} {xs : List Vl} (h : Tp H v (Vl.ls xs).dat) : ∃ a b ws, v = .ref a ∧ H a = some (.tup [.str "list", .ref b]) ∧ H b = some (.tup ws) ∧ TpAll H ws (datL xs) := by
  obtain ⟨a, vs, rfl, h1, h2⟩ := tp_tup (show Tp H v (.tuple [.str "list", .tuple (datL xs)]) from h)
  cases h2 with
  | cons x1 x2 =>
    cases x1
    cases x2 with
    | cons y1 y2 =>
      cases y2
      obtain ⟨b, ws, rfl, g1, g2⟩ := tp_tup y1
      exact ⟨a, b, ws, rfl, h1, g1, g2⟩
theorem tp_mp {H : Hp} {v : V} {es : List (List Int × Vl)} (h : Tp H v (Vl.mp es).dat) : ∃ a b ws, v = .ref a ∧ H a = some (.tup [.str "map", .ref b]) ∧ H b = some (.tup ws) ∧ TpAll H ws (datM es) := by
  obtain ⟨a, vs, rfl, h1, h2⟩ := tp_tup (show Tp H v (.tuple [.str "map", .tuple (datM es)]) from h)
  cases h2 with
  | cons x1 x2 =>
    cases x1
    cases x2 with
    | cons y1 y2 =>
      cases y2
      obtain ⟨b, ws, rfl, g1, g2⟩ := tp_tup y1
      exact ⟨a, b, ws, rfl, h1, g1, g2⟩
theorem tp_en {H : Hp} {v : V} {k : List Int} {d : PyData} (h : Tp H v (.tuple [kd k, d])) : ∃ t q u, v = .ref t ∧ H t = some (.tup [.ref q, u]) ∧ H q = some (.tup (k.map V.int)) ∧ Tp H u d := by
  obtain ⟨a, vs, rfl, h1, h2⟩ := tp_tup h
  cases h2 with
  | cons x1 x2 =>
    cases x2 with
    | cons y1 y2 =>
      cases y2
      obtain ⟨q, rfl, hq⟩ := tp_kdB x1
      exact ⟨a, q, _, rfl, h1, hq, y1⟩
theorem tp_lf {H : Hp} {v : V} {k : Str} {r : List PyData} (h : Tp H v (Vl.lf k r).dat) : ∃ a ws, v = .ref a ∧ H a = some (.tup (.str k :: ws)) ∧ TpAll H ws r := by
  obtain ⟨a, vs, rfl, h1, h2⟩ := tp_tup (show Tp H v (.tuple (.str k :: r)) from h)
  cases h2 with
  | cons x1 x2 =>
    cases x1
    exact ⟨a, _, rfl, h1, x2⟩
theorem datL_get {xs : List Vl} {i : Nat} {d : PyData} (h : (datL xs)[i]? = some d) : ∃ x, xs[i]? = some x ∧ d = x.dat := by
  rw [datL_map, List.getElem?_map] at h
  obtain ⟨x, h1, h2⟩ := Option.map_eq_some_iff.mp h
  exact ⟨x, h1, h2.symm⟩
theorem datM_get {xs : List (List Int × Vl)} {i : Nat} {d : PyData} (h : (datM xs)[i]? = some d) : ∃ k x, xs[i]? = some (k, x) ∧ d = .tuple [kd k, x.dat] := by
  rw [datM_map, List.getElem?_map] at h
  obtain ⟨x, h1, h2⟩ := Option.map_eq_some_iff.mp h
  exact ⟨x.1, x.2, h1, h2.symm⟩
theorem take_one {α : Type} {l : List α} {i : Nat} {x : α} (h : l[i]? = some x) : l.take (i + 1) = l.take i ++ [x] := by
  rw [List.take_succ, h]
  rfl
theorem str_list : ¬ ("map" : Str) = "list" := by decide +kernel
theorem evsL_len {xs : List Vl} : (Vl.ls xs).evs.length = (evsL xs).length + 2 := by
  show (evsL xs ++ [Ev.cl]).length + 1 = _
  rw [List.length_append]
  rfl
theorem evsM_len {xs : List (List Int × Vl)} : (Vl.mp xs).evs.length = (evsM xs).length + 2 := by
  show (evsM xs ++ [Ev.cl]).length + 1 = _
  rw [List.length_append]
  rfl
theorem tp_ev2 {H : Hp} {T : Addr} {k : Str} {v : V} {d : PyData} (h : H T = some (.tup [.str k, v])) (hv : Tp H v d) : Tp H (.ref T) (.tuple [.str k, d]) := .tup h (.cons (.str _) (.cons hv .nil))
theorem tp_cl {H : Hp} {T : Addr} (h : H T = some (.tup [.str "close"])) : Tp H (.ref T) Ev.cl.dat := .tup h (.cons (.str _) .nil)
theorem evD_len (es : List Ev) : (evD es).length = es.length := List.length_map _

theorem r_din {σ : St} {H : Hp} {Q : VK} {td ty : TE} (h : ty σ H fun y H1 => td σ H1 fun x H2 => ∃ a o, x = .ref a ∧ DGet H2 a y o ∧ Q (.bl o.isSome) H2) : tDIn ty td σ H Q := h
theorem r_dput {σ : St} {H : Hp} {n b c : St → Hp → Prop} {r : VK} {td ty tv : TE} (h : tv σ H fun v H1 => td σ H1 fun x H2 => ty σ H2 fun y H3 => ∃ a H4, x = .ref a ∧ DPut H3 a y v H4 ∧ n σ H4) : sDPut td ty tv ⟨n, r, b, c⟩ σ H := h

/-! ### heaps, step by step: what one change leaves, what many leave -/
/-- a alone is changed, and it was no tuple -/
def Eb (a : Addr) (H H' : Hp) : Prop := (∀ b, b ≠ a → H' b = H b) ∧ ∀ xs, H a ≠ some (.tup xs)
/-- all but o stays, tuples stay wherever they are -/
def Ch (o : List Addr) (H H' : Hp) : Prop := ∀ x u, H x = some u → (x ∈ o → ∃ xs, u = .tup xs) → H' x = some u
section
variable {o o2 : List Addr} {H H1 H2 H' : Hp} {a x : Addr} {u : HO} {xs : List V}
theorem Eb.get (e : Eb a H H') (n : x ≠ a) (h : H x = some u) : H' x = some u := (e.1 x n).trans h
theorem Eb.upd {o : HO} (h : H a = some u) (n : ∀ xs, u ≠ .tup xs) : Eb a H (upd H a o) := ⟨fun b hb => upd_ne hb, fun xs e => by rw [h] at e; exact n xs (Option.some.inj e)⟩
theorem Ch.get (c : Ch o H H') (n : x ∉ o) (h : H x = some u) : H' x = some u := c x u h fun z => absurd z n
theorem Ch.tup (c : Ch o H H') (h : H x = some (.tup xs)) : H' x = some (.tup xs) := c x _ h fun _ => ⟨xs, rfl⟩
theorem Ch.tk (c : Ch o H H') : Tk H H' := fun _ _ h => c.tup h
theorem Eb.tk (e : Eb a H H') : Tk H H' := fun b xs h => (e.1 b fun q => by rw [q] at h; exact e.2 xs h).trans h
theorem Ch.refl : Ch o H H := fun _ _ h _ => h
theorem Ch.same (s : Same H1 H2) (c : Ch o H H1) : Ch o H H2 := fun x u h n => s _ _ (c x u h n)
theorem Ch.eb (e : Eb a H1 H2) (m : a ∈ o) (c : Ch o H H1) : Ch o H H2 := fun x u h n => by
  have h1 := c x u h n
  by_cases q : x = a
  · subst q
    obtain ⟨xs, rfl⟩ := n m
    exact absurd h1 (e.2 xs)
  · exact e.get q h1
theorem Ch.ebn (e : Eb a H1 H2) (m : H a = none) (c : Ch o H H1) : Ch o H H2 := fun x u h n => e.get (fun q => by rw [q, m] at h; cases h) (c x u h n)
theorem Ch.ch (c2 : Ch o2 H1 H2) (m : ∀ x ∈ o2, x ∈ o ∨ H x = none) (c : Ch o H H1) : Ch o H H2 := fun x u h n => c2 x u (c x u h n) fun z => by
  rcases m x z with q | q
  · exact n q
  · rw [h] at q
    cases q
theorem Ch.mono (c : Ch o H H') (m : ∀ x ∈ o, x ∈ o2) : Ch o2 H H' := fun x u h n => c x u h fun z => n (m x z)
theorem Ch.trans (c : Ch o H H1) (c2 : Ch o H1 H2) : Ch o H H2 := c2.ch (fun x hx => .inl hx) c
theorem Ch.seq {K : Frg} (c : Ch o H H') (n : x ∉ o) (h : SqL K H x xs) : SqL K H' x xs := by
  rcases h with (h | ⟨u, h⟩) | h
  · exact .inl (.inl (c.get n h))
  · exact .inl (.inr ⟨u, c.get n h⟩)
  · exact .inr h
theorem Same.get (s : Same H H') (h : H x = some u) : H' x = some u := s _ _ h
theorem nm_nil : x ∉ ([] : List Addr) := by simp
theorem nm_cons (h : x ≠ a) (t : x ∉ o) : x ∉ a :: o := by simp [h, t]
theorem nm_app (h : x ∉ o) (t : x ∉ o2) : x ∉ o ++ o2 := by simp [h, t]
theorem ms_nil {p : Addr → Prop} : ∀ x ∈ ([] : List Addr), p x := by simp
theorem ms_cons {p : Addr → Prop} (h : p a) (t : ∀ x ∈ o, p x) : ∀ x ∈ a :: o, p x := fun x hx => by
  rcases List.mem_cons.mp hx with e | e
  · rw [e]; exact h
  · exact t x e
theorem ms_app {p : Addr → Prop} (h : ∀ x ∈ o, p x) (t : ∀ x ∈ o2, p x) : ∀ x ∈ o ++ o2, p x := fun x hx => by
  rcases List.mem_append.mp hx with e | e
  · exact h x e
  · exact t x e
theorem ne_il {C dx : Addr} {fs : List (Str × V)} {b : Addr} (h1 : H a = some (.ins C dx fs)) (h2 : H b = some (.lst xs)) : a ≠ b := fun e => by
  rw [e, h2] at h1
  cases h1
theorem ne_id {C dx : Addr} {fs : List (Str × V)} {b : Addr} {kvs : List (List Key × V)} (h1 : H a = some (.ins C dx fs)) (h2 : H b = some (.dT kvs)) : a ≠ b := fun e => by
  rw [e, h2] at h1
  cases h1
theorem ne_ld {b : Addr} {kvs : List (List Key × V)} (h1 : H a = some (.lst xs)) (h2 : H b = some (.dT kvs)) : a ≠ b := fun e => by
  rw [e, h2] at h1
  cases h1
/-- what is new to a later heap was new before, or is one's own -/
theorem Ch.fresh (c : Ch o H H') (h : H' x = none) : x ∈ o ∨ H x = none := by
  by_cases m : x ∈ o
  · exact .inl m
  · cases e : H x with
    | none => exact .inr rfl
    | some u =>
      rw [c.get m e] at h
      cases h
end
section
variable {σ : St} {H : Hp} {n b c : St → Hp → Prop} {r : VK} {Q : VK} {K : Frg} {a C dx : Addr} {fs : List (Str × V)} {f : Str} {v : V}
theorem r_fsetE {R : Hp → Prop} {fs' : List (Str × V)} (h : H a = some (.ins C dx fs)) (cl : Cls K C) (na : NoAttr K C f) (hl : fs.length < 1000) (e : putF f v fs = fs') (q : ∀ H', H' a = some (.ins C dx fs') → Eb a H H' → R H') :
    ∃ a' C dx fs, V.ref a = .ref a' ∧ H a' = some (.ins C dx fs) ∧ Cls K C ∧ NoAttr K C f ∧ fs.length < 1000 ∧ R (upd H a' (.ins C dx (putF f v fs))) := r_fset h cl na hl e (q _ upd_same (Eb.upd h fun xs e => by cases e))
theorem r_appE {p : Addr} {xs : List V} {y : V} (h : H p = some (.lst xs)) (hl : xs.length < sizeLine) (q : ∀ H', H' p = some (.lst (xs ++ [y])) → Eb p H H' → Q .non H') : rAppend (.ref p) [y] H Q := r_app h hl (q _ upd_same (Eb.upd h fun xs e => by cases e))
theorem r_popE {p : Addr} {xs : List V} {y : V} (h : H p = some (.lst (xs ++ [y]))) (q : ∀ H', H' p = some (.lst xs) → Eb p H H' → Q y H') : rPop (.ref p) [] H Q := by
  refine ⟨p, _, y, rfl, rfl, h, ?_, ?_⟩
  · rw [List.length_append]
    show (xs ++ [y])[xs.length + 1 - 1]? = some y
    simp
  · exact q _ (by rw [upd_same, List.dropLast_concat]) (Eb.upd h fun xs e => by cases e)
theorem r_orT {ta tb : TE} (h : ta σ H fun x H1 => ∃ k, TruV K x H1 k ∧ if k = true then Q x H1 else tb σ H1 Q) : tOrT K ta tb σ H Q := h
theorem pe_alt {X : Cx} {e : Expr} {t u : TE} (h1 : PE X e t) (h2 : PE X e u) : PE X e (fun σ H Q => t σ H Q ∨ u σ H Q) := by
  refine ⟨fun pins s σ H Q I h => ?_⟩
  rcases h with h | h
  · exact h1.run pins s σ H Q I h
  · exact h2.run pins s σ H Q I h
end
/-! ### new objects by what is known of the heap behind them -/
section
variable {X : Cx} {es : List Expr} {t : TA} {pos : Pos}
theorem pa_mono (ha : PA X es t) : PA X es (fun σ H R => ∃ R0 : List V → Hp → Prop, t σ H R0 ∧ ∀ xs H1, R0 xs H1 → R xs H1) :=
  ⟨fun pos pins s σ H Q I ⟨R0, h, im⟩ => wpAny_mono (ha.run pos pins s σ H R0 I h) (fun us s' ⟨xs, H', I', r, q⟩ => ⟨xs, H', I', r, im _ _ q⟩) fun _ _ x => x⟩
def tLstE (t : TA) : TE := fun σ H Q => t σ H fun xs H1 => xs.length ≤ sizeLine ∧ ∀ p H2, H1 p = none → H2 p = some (.lst xs) → Same H1 H2 → Q (.ref p) H2
def tTupE (t : TA) : TE := fun σ H Q => t σ H fun xs H1 => xs.length ≤ sizeLine ∧ ∀ p H2, H1 p = none → H2 p = some (.tup xs) → Same H1 H2 → Q (.ref p) H2
def tDnwE : TE := fun _ H Q => ∀ p H2, H p = none → H2 p = some (.dT []) → Same H H2 → Q (.ref p) H2
theorem pe_lstE {p : Pos} (ha : PA X es t) : PE X (.List es p) (tLstE t) := ⟨fun pins s σ H Q I h => (pe_lst (pa_mono ha)).run pins s σ H Q I ⟨_, h, fun xs H1 q => ⟨q.1, fun p np => q.2 p _ np upd_same (same_upd np _)⟩⟩⟩
theorem pe_tupE {k : Nat} {p : Pos} (ha : PA X es t) : PE X (.Tuple es k p) (tTupE t) := ⟨fun pins s σ H Q I h => (pe_tup (pa_mono ha)).run pins s σ H Q I ⟨_, h, fun xs H1 q => ⟨q.1, fun p np => q.2 p _ np upd_same (same_upd np _)⟩⟩⟩
theorem pe_dnwE {pos : Pos} : PE X (.Dict [] [] pos) tDnwE := ⟨fun pins s σ H Q I h => pe_dnewT.run pins s σ H Q I fun p np => h p _ np upd_same (same_upd np _)⟩
def rListE (K : Frg) : List V → Hp → VK → Prop := fun xs H Q => ∃ p ys, xs = [.ref p] ∧ (SqL K H p ys ∨ SqT K H p ys) ∧ ∀ l H2, H l = none → H2 l = some (.lst ys) → Same H H2 → Q (.ref l) H2
def rTupleE (K : Frg) : List V → Hp → VK → Prop := fun xs H Q => ∃ p ys, xs = [.ref p] ∧ ((SqL K H p ys ∧ ∀ l H2, H l = none → H2 l = some (.tup ys) → Same H H2 → Q (.ref l) H2) ∨ (SqT K H p ys ∧ Q (.ref p) H))
theorem call_list_ofE : CallR X (.type "list") (rListE X.K) := fun pins s σ H xs us Q I r ⟨p, ys, e, o, q⟩ => call_list_of pins s σ H xs us Q I r ⟨p, ys, e, o, fun l nl => q l _ nl upd_same (same_upd nl _)⟩
theorem call_tuple_ofE : CallR X (.type "tuple") (rTupleE X.K) := fun pins s σ H xs us Q I r ⟨p, ys, e, o⟩ => call_tuple_of pins s σ H xs us Q I r ⟨p, ys, e, o.imp (fun q => ⟨q.1, fun l nl => q.2 l _ nl upd_same (same_upd nl _)⟩) id⟩
end
section
variable {σ : St} {H : Hp} {Q : VK} {K : Frg} {t : TA}
theorem r_lstE (h : t σ H fun xs H1 => xs.length ≤ sizeLine ∧ ∀ p H2, H1 p = none → H2 p = some (.lst xs) → Same H1 H2 → Q (.ref p) H2) : tLstE t σ H Q := h
theorem r_tupE (h : t σ H fun xs H1 => xs.length ≤ sizeLine ∧ ∀ p H2, H1 p = none → H2 p = some (.tup xs) → Same H1 H2 → Q (.ref p) H2) : tTupE t σ H Q := h
theorem r_dnwE (h : ∀ p H2, H p = none → H2 p = some (.dT []) → Same H H2 → Q (.ref p) H2) : tDnwE σ H Q := h
theorem Same.ne {H : Hp} {p x : Addr} {u : HO} (np : H p = none) (h : H x = some u) : x ≠ p := fun e => by rw [e, np] at h; cases h
/-- list(xs) of a list -/
theorem r_toL {p : Addr} {ys : List V} (hs : SqL K H p ys) (q : ∀ l H2, H l = none → H2 l = some (.lst ys) → Same H H2 → Q (.ref l) H2) : rListE K [.ref p] H Q := ⟨p, ys, rfl, .inl hs, q⟩
theorem r_toLt {p : Addr} {ys : List V} (hs : SqT K H p ys) (q : ∀ l H2, H l = none → H2 l = some (.lst ys) → Same H H2 → Q (.ref l) H2) : rListE K [.ref p] H Q := ⟨p, ys, rfl, .inr hs, q⟩
theorem r_toT {p : Addr} {ys : List V} (hs : SqL K H p ys) (q : ∀ l H2, H l = none → H2 l = some (.tup ys) → Same H H2 → Q (.ref l) H2) : rTupleE K [.ref p] H Q := ⟨p, ys, rfl, .inl ⟨hs, q⟩⟩
end
/-- an expression whose value is known, whatever is wished of it -/
theorem r_joinE {σ : St} {H : Hp} {Q : VK} {t : TE} (v : V) (h1 : ∀ R : VK, R v H → t σ H R) (h : Q v H) : t σ H Q := h1 Q h

/-! ### a try whose body raises nothing -/
section
variable {X : Cx} {body : List Stmt} {h₀ : ExceptHandler} {hs : List ExceptHandler} {t : TS} {pos : Pos}
theorem ps_tryN0 (hn : ∀ e s, ¬ X.xe e s) (hb : PSs X body t) : PS X (.Try body (h₀ :: hs) [] [] pos) t := ps_try_never (u := tNext) hn hb pss_nil
end

/-! ### rows of things, entries -/
theorem map_get {α : Type} {f : α → V} {l : List α} {i : Nat} {x : V} (h : (l.map f)[i]? = some x) : ∃ e, l[i]? = some e ∧ x = f e ∧ l.take (i + 1) = l.take i ++ [e] := by
  rw [List.getElem?_map] at h
  obtain ⟨e, h1, h2⟩ := Option.map_eq_some_iff.mp h
  refine ⟨e, h1, h2.symm, ?_⟩
  rw [List.take_succ, h1]
  rfl
theorem dpa_map {α : Type} {K : Frg} {H : Hp} {f : α → V} {g : α → PyData} : ∀ {l : List α}, (∀ e ∈ l, Dp K H (f e) (g e)) → DpAll K H (l.map f) (l.map g)
  | [], _ => .nil
  | x :: l, h => .cons (h x (List.mem_cons_self ..)) (dpa_map fun e he => h e (List.mem_cons_of_mem _ he))
theorem tpa_map {α : Type} {H : Hp} {f : α → V} {g : α → PyData} : ∀ {l : List α}, (∀ e ∈ l, Tp H (f e) (g e)) → TpAll H (l.map f) (l.map g)
  | [], _ => .nil
  | x :: l, h => .cons (h x (List.mem_cons_self ..)) (tpa_map fun e he => h e (List.mem_cons_of_mem _ he))
theorem vl_ref {H : Hp} {v : V} {t : Vl} (h : Tp H v t.dat) : ∃ u, v = .ref u := by
  cases t <;> (obtain ⟨a, _, e, _⟩ := tp_tup h; exact ⟨a, e⟩)
theorem EntAt.tk {H H' : Hp} {e : Ent} (k : Tk H H') (h : EntAt H e) : EntAt H' e := ⟨k _ _ h.1, k _ _ h.2⟩

/-! ### deep equality -/
def rEqW (K : Frg) : R2 := fun x y H Q => ∃ d, Dp K H x d ∧ Dp K H y d ∧ d.canLay0 = true ∧ d.depth ≤ 150 ∧ Q (.bl true) H
def rNeW (K : Frg) : R2 := fun x y H Q => ∃ d, Dp K H x d ∧ Dp K H y d ∧ d.canLay0 = true ∧ d.depth ≤ 150 ∧ Q (.bl false) H
theorem op_eqW {X : Cx} {k : Nat} (hr : Room k X.A) : OpR X (compareOp .Eq) (rEqW X.K) := by
  intro pins s σ H x y v u Q I rx ry h
  obtain ⟨d, hd, he, sd, sl, q⟩ := h
  obtain ⟨as, r1⟩ := Dp.reads I d x v hd rx
  obtain ⟨bs, r2⟩ := Dp.reads I d y u he ry
  have := hr.un
  refine SeqAt.compareEq_reads r1 r2 sd sd (by rw [Nat.min_self]; omega) ?_
  rw [SeqAt.eqv_refl d sd]
  exact ⟨.bl true, H, I, rfl, q⟩
theorem op_neW {X : Cx} {k : Nat} (hr : Room k X.A) : OpR X (compareOp .NotEq) (rNeW X.K) := by
  intro pins s σ H x y v u Q I rx ry h
  obtain ⟨d, hd, he, sd, sl, q⟩ := h
  obtain ⟨as, r1⟩ := Dp.reads I d x v hd rx
  obtain ⟨bs, r2⟩ := Dp.reads I d y u he ry
  have := hr.un
  refine SeqAt.compareNe_reads r1 r2 sd sd (by rw [Nat.min_self]; omega) ?_
  rw [SeqAt.eqv_refl d sd]
  exact ⟨.bl false, H, I, rfl, q⟩
/-! ### what values look like to it -/
theorem lay_lf {k : Str} {r : List PyData} (h : Lf k r) : PyData.canLay0 (.str k) = true ∧ PyData.canLayAll0 r = true ∧ PyData.depthAll r ≤ 1 := by
  cases h with
  | null => exact ⟨by decide +kernel, rfl, Nat.zero_le _⟩
  | truth b => exact ⟨by decide +kernel, rfl, by simp [PyData.depthAll, PyData.depth]⟩
  | number m e => exact ⟨by decide +kernel, rfl, by simp [PyData.depthAll, PyData.depth]⟩
  | bytes os ho =>
    refine ⟨by decide +kernel, ?_, ?_⟩
    · show (PyData.canLay0 (kd os) && true) = true
      rw [Bool.and_true]
      exact lay_kd os
    · show max (kd os).depth 0 ≤ 1
      exact Nat.max_le.mpr ⟨depth_kd1 os, Nat.zero_le _⟩
  | text ps hp =>
    refine ⟨by decide +kernel, ?_, ?_⟩
    · show (PyData.canLay0 (kd ps) && true) = true
      rw [Bool.and_true]
      exact lay_kd ps
    · show max (kd ps).depth 0 ≤ 1
      exact Nat.max_le.mpr ⟨depth_kd1 ps, Nat.zero_le _⟩
theorem lay_list : PyData.canLay0 (.str "list") = true := by decide +kernel
theorem lay_map : PyData.canLay0 (.str "map") = true := by decide +kernel
mutual
theorem vl_lay : ∀ (n : Nat) (t : Vl), t.ok n → t.dat.canLay0 = true
  | n, .lf k r, h => by
    obtain ⟨h1, h2, _⟩ := lay_lf (show Lf k r by cases n <;> exact h)
    show (PyData.canLay0 (.str k) && PyData.canLayAll0 r) = true
    rw [h1, h2]
    rfl
  | 0, .ls xs, h => h.elim
  | n + 1, .ls xs, h => by
    show (PyData.canLay0 (.str "list") && (PyData.canLayAll0 (datL xs) && true)) = true
    rw [lay_list, vlL_lay n xs h.2]
    rfl
  | 0, .mp es, h => h.elim
  | n + 1, .mp es, h => by
    show (PyData.canLay0 (.str "map") && (PyData.canLayAll0 (datM es) && true)) = true
    rw [lay_map, vlM_lay n es h.2.2.2]
    rfl
theorem vlL_lay : ∀ (n : Nat) (xs : List Vl), vokL n xs → PyData.canLayAll0 (datL xs) = true
  | _, [], _ => rfl
  | n, x :: xs, h => by
    show (x.dat.canLay0 && PyData.canLayAll0 (datL xs)) = true
    rw [vl_lay n x h.1, vlL_lay n xs h.2]
    rfl
theorem vlM_lay : ∀ (n : Nat) (xs : List (List Int × Vl)), vokM n xs → PyData.canLayAll0 (datM xs) = true
  | _, [], _ => rfl
  | n, (k, x) :: xs, h => by
    show ((PyData.canLay0 (kd k) && (x.dat.canLay0 && true)) && PyData.canLayAll0 (datM xs)) = true
    rw [vl_lay n x h.1, vlM_lay n xs h.2, show PyData.canLay0 (kd k) = true from lay_kd k]
    rfl
end
mutual
theorem vl_depth : ∀ (n : Nat) (t : Vl), t.ok n → t.dat.depth ≤ 3 * n + 2
  | n, .lf k r, h => by
    obtain ⟨_, _, h3⟩ := lay_lf (show Lf k r by cases n <;> exact h)
    show max 0 (PyData.depthAll r) + 1 ≤ _
    omega
  | 0, .ls xs, h => h.elim
  | n + 1, .ls xs, h => by
    have q := vlL_depth n xs h.2
    show max 0 (max (PyData.depthAll (datL xs) + 1) 0) + 1 ≤ _
    omega
  | 0, .mp es, h => h.elim
  | n + 1, .mp es, h => by
    have q := vlM_depth n es h.2.2.2
    show max 0 (max (PyData.depthAll (datM es) + 1) 0) + 1 ≤ _
    omega
theorem vlL_depth : ∀ (n : Nat) (xs : List Vl), vokL n xs → PyData.depthAll (datL xs) ≤ 3 * n + 2
  | _, [], _ => Nat.zero_le _
  | n, x :: xs, h => by
    have q1 := vl_depth n x h.1
    have q2 := vlL_depth n xs h.2
    show max x.dat.depth (PyData.depthAll (datL xs)) ≤ _
    omega
theorem vlM_depth : ∀ (n : Nat) (xs : List (List Int × Vl)), vokM n xs → PyData.depthAll (datM xs) ≤ 3 * n + 3
  | _, [], _ => Nat.zero_le _
  | n, (k, x) :: xs, h => by
    have q1 := vl_depth n x h.1
    have q2 := vlM_depth n xs h.2
    have q3 := depth_kd1 k
    show max (max (kd k).depth (max x.dat.depth 0) + 1) (PyData.depthAll (datM xs)) ≤ _
    omega
end
/-! ### sorted lists of entries -/
theorem sorted_uniq : ∀ {zs ys : List (List Int × Vl)}, zs.Perm ys → (zs.map (·.1)).Pairwise (fun x y => HT.lexLt x y = true) → (ys.map (·.1)).Pairwise (fun x y => HT.lexLt x y = true) → zs = ys
  | [], ys, p, _, _ => (List.Perm.eq_nil p.symm).symm
  | z :: zs, [], p, _, _ => absurd p.length_eq (by simp)
  | z :: zs, y :: ys, p, h1, h2 => by
    rw [List.map_cons, List.pairwise_cons] at h1 h2
    have e : z = y := by
      rcases List.mem_cons.mp (p.mem_iff.mp (List.mem_cons_self (a := z) (l := zs))) with q | q
      · exact q
      · rcases List.mem_cons.mp (p.mem_iff.mpr (List.mem_cons_self (a := y) (l := ys))) with q2 | q2
        · exact q2.symm
        · have a := h2.1 z.1 (List.mem_map.mpr ⟨z, q, rfl⟩)
          have b := h1.1 y.1 (List.mem_map.mpr ⟨y, q2, rfl⟩)
          rw [lexLt_asym _ _ a] at b
          cases b
    subst e
    rw [sorted_uniq p.cons_inv h1.2 h2.2]


def EdAt (H : Hp) (e : Ent × Vl) : Prop := EntAt H e.1 ∧ Tp H (.ref e.1.u) e.2.dat
theorem EdAt.tk {H H' : Hp} {e : Ent × Vl} (k : Tk H H') (h : EdAt H e) : EdAt H' e := ⟨h.1.tk k, Tp.tk k _ _ h.2⟩
def pr (e : Ent × Vl) : List Int × Vl := (e.1.k, e.2)
def sp_list_of (K : Frg) : Sp := sp1 fun a H Q _ => ∃ p vs ts, a = .ref p ∧ H p = some (.lst vs) ∧ TpAll H vs (datL ts) ∧ ∀ v H', Tp H' v (Vl.ls ts).dat → Same H H' → Q v H'
def sp_map_of (K : Frg) : Sp := sp1 fun a H Q _ => ∃ p, ∃ es : List (Ent × Vl), a = .ref p ∧ H p = some (.lst (es.map fun e => V.ref e.1.t)) ∧ (∀ e ∈ es, EdAt H e) ∧ (es.map (·.1.k)).Nodup ∧ es.length ≤ 1000 ∧
  ∀ v zs H', zs.Perm (es.map pr) → (zs.map (·.1)).Pairwise (fun x y => HT.lexLt x y = true) → Tp H' v (Vl.mp zs).dat → Same H H' → Q v H'
def ik (k : List Int) : List L2.Key := k.map Sum.inl
theorem ik_inj {a b : List Int} (h : ik a = ik b) : a = b := by
  induction a generalizing b with
  | nil =>
    cases b with
    | nil => rfl
    | cons y b => cases h
  | cons x a ih =>
    cases b with
    | nil => cases h
    | cons y b =>
      injection h with h1 h2
      injection h1 with h1
      rw [h1, ih h2]
def tbl (es : List (Ent × Vl)) : List (List L2.Key × V) := es.map fun e => (ik e.1.k, V.ref e.1.u)
theorem tbl_none {k : List Int} : ∀ {es : List (Ent × Vl)}, (∀ e ∈ es, e.1.k ≠ k) → valV (tbl es) (ik k) = none
  | [], _ => rfl
  | e :: es, h => by
    show valV ((ik e.1.k, V.ref e.1.u) :: tbl es) (ik k) = none
    rw [valV_neg (fun q => h e (List.mem_cons_self ..) (ik_inj q))]
    exact tbl_none fun x hx => h x (List.mem_cons_of_mem _ hx)
theorem tbl_some : ∀ {es : List (Ent × Vl)} {e : Ent × Vl}, (es.map (·.1.k)).Nodup → e ∈ es → valV (tbl es) (ik e.1.k) = some (.ref e.1.u)
  | [], _, _, h => absurd h (by simp)
  | x :: es, e, hn, h => by
    rw [List.map_cons, List.nodup_cons] at hn
    show valV ((ik x.1.k, V.ref x.1.u) :: tbl es) (ik e.1.k) = _
    rcases List.mem_cons.mp h with q | q
    · subst q
      rw [valV_pos rfl]
    · rw [valV_neg (fun z => hn.1 (by rw [ik_inj z]; exact List.mem_map.mpr ⟨e, q, rfl⟩))]
      exact tbl_some hn.2 q
theorem tbl_put {k : List Int} {v : V} {es : List (Ent × Vl)} (h : ∀ e ∈ es, e.1.k ≠ k) : putK (tbl es) (ik k) v = tbl es ++ [(ik k, v)] := by
  unfold putK
  rw [valV_any, tbl_none h]
  rfl
theorem take_mem {α : Type} {l : List α} {i : Nat} {e : α} (h : e ∈ l.take i) : ∃ j, j < i ∧ l[j]? = some e := by
  obtain ⟨j, hj, e2⟩ := List.getElem_of_mem h
  rw [List.getElem_take] at e2
  rw [List.length_take] at hj
  exact ⟨j, by omega, by rw [List.getElem?_eq_getElem (by omega), e2]⟩
theorem tpa_eds {H : Hp} {cs : List (Ent × Vl)} (h : ∀ e ∈ cs, EdAt H e) : TpAll H (cs.map fun e => V.ref e.1.t) (datM (cs.map pr)) := by
  rw [datM_map, List.map_map]
  exact tpa_map fun e he => .tup (h e he).1.1 (.cons (tp_kd (h e he).1.2) (.cons (h e he).2 .nil))
theorem r_dget {σ : St} {H : Hp} {Q : VK} {td ty : TE} (h : td σ H fun x H1 => ty σ H1 fun y H2 => ∃ a v, x = .ref a ∧ DGet H2 a y (some v) ∧ Q v H2) : tDGet td ty σ H Q := h
section
variable {P : Program} {w : World} {K : PySem.W.Frag} {mg : Str → Option Value} {base : Heap} {f : Addr} {fd : FuncData}
theorem ok_list_of (F : FunD K "list_of" "list_of" (defArgs s_list_of) (defBody s_list_of) (defScope s_list_of) [] [] (glAd "list_of" K) fd) (m : mg "list_of" = some (.ref (glAd "list_of" K))) (nb : Nm K mg) : Cal P w K mg base 1 "list_of" (sp_list_of K) [] := by
  refine calD F m sc_list_of (fun _ _ _ _ _ _ us hl => match us, hl with | [_], _ => rfl) len1 (fun cdv A outer s H vs Q E hr h => ⟨_, (pss_one (ps_ret (pe_tup (pa_cons pe_str (pa_cons (pe_callTy call_tuple_of (by rfl) nb.tuple (by decide +kernel) (pa_cons (pv 0) pa_nil)) pa_nil))))), ?_⟩)
  obtain ⟨_, rfl, p, vs, ts, rfl, hp, tp, h⟩ := h
  walk_at "rd"
  refine ⟨p, _, rfl, .inl ⟨SqL.of hp, fun t nt => ?_⟩⟩
  walk_at "rd"
  refine ⟨by show 2 ≤ sizeLine; decide, fun q nq => ?_⟩
  have s := (same_upd nt (.tup vs)).trans (same_upd nq (.tup [.str "list", .ref t]))
  exact h (.ref q) _ (.tup upd_same (.cons (.str _) (.cons (.tup (same_upd nq _ _ _ upd_same) (TpAll.tk (Same.tk s) _ _ tp)) .nil))) s
theorem ok_map_of (F : FunD K "map_of" "map_of" (defArgs s_map_of) (defBody s_map_of) (defScope s_map_of) [] [] (glAd "map_of" K) fd) (m : mg "map_of" = some (.ref (glAd "map_of" K))) (nb : Nm K mg) : Cal P w K mg base 1 "map_of" (sp_map_of K) [] := by
  refine calD F m sc_map_of (fun _ _ _ _ _ _ us hl => match us, hl with | [_], _ => rfl) len1 (fun cdv A outer s H vs Q E hr h => ⟨_, (pss_cons (ps_set (i := 1) sc_map_of.nd rfl (Or.inr rfl) pe_dnewT)
    (pss_cons (ps_for PassesOwn.never rfl (pi_list (pv 0)) (pg_tup rfl (pgs_cons (pg_name (i := 2) sc_map_of.nd rfl (Or.inl rfl)) (pgs_cons (pg_name (i := 3) sc_map_of.nd rfl (Or.inl rfl)) pgs_nil)))
    (pss_cons (ps_set (i := 4) sc_map_of.nd rfl (Or.inl rfl) (pe_callTy call_tuple_of (by rfl) nb.tuple (by decide +kernel) (pa_cons (pv 2) pa_nil)))
    (pss_cons (ps_if (pt_cmp (pc_din (hu_of hr) (pv 4) (pv 1)))
    (pss_one ps_never)
    pss_nil)
    (pss_one (ps_dput (hu_of hr) (pv 1) (pv 4) (pv 3) rfl)))))
    (pss_one (ps_ret (pe_tup (pa_cons pe_str (pa_cons (pe_callTy call_tuple_of (by rfl) nb.tuple (by decide +kernel) (pa_cons (pe_lc (own := [("key", 4)]) (g := gName 4) (tt := tYes) rfl sc_map_of.nd (pi_list (pe_callB (cr_sortedTD rfl hr.units) (by rfl) nb.sorted (by decide +kernel) (pa_cons (pv 1) pa_nil))) (blkOk_by (N := ["entries", "table", "points", "value", "key"]) (sc := defScope s_map_of) (by decide +kernel)) (fun _ _ _ _ _ => pg_name (i := 4) sc_map_of.nd rfl (Or.inl rfl)) (fun _ _ _ _ _ => pts_nil) (fun _ _ _ _ _ => (pe_tup (pa_cons (pv 4) (pa_cons (pe_dget (hu_of hr) (pv 1) (pv 4) (fun _ _ => rfl)) pa_nil))))) pa_nil)) pa_nil))))))), ?_⟩)
  obtain ⟨_, rfl, p, es, rfl, hp, he, hn, hl, h⟩ := h
  walk_at "rd"
  intro d nd
  have s1 := same_upd nd (.dT [])
  have hd1 : upd H d (.dT []) d = some (.dT (tbl [])) := upd_same
  generalize upd H d (.dT []) = H1 at s1 hd1 ⊢
  walk_at "rd"
  refine ⟨p, rfl, ⟨_, SqL.of (s1 _ _ hp)⟩, r_eachL (xs := es.map fun e => V.ref e.1.t) (fun i σ H' => ∃ (y2 y3 y4 : Option V), Same H H' ∧ H' d = some (.dT (tbl (es.take i))) ∧ σ = [some (.ref p), some (.ref d), y2, y3, y4]) ⟨none, none, none, s1, hd1, rfl⟩ ?_ ?_ ?_⟩
  · rintro i σ H' ⟨y2, y3, y4, s2, _⟩
    exact SqL.of (s2 _ _ hp)
  · rintro i x σ H2 hx ⟨y2, y3, y4, s2, hd2, rfl⟩
    obtain ⟨e, hi, rfl, et⟩ := map_get hx
    obtain ⟨⟨g1, g2⟩, g3⟩ := (he e (List.mem_of_getElem? hi)).tk (Same.tk s2)
    have hno : ∀ x ∈ es.take i, x.1.k ≠ e.1.k := fun x hx q => by
      obtain ⟨j, hj, hxj⟩ := take_mem hx
      have hpw := List.pairwise_iff_getElem.mp hn
      have h1 : j < es.length := (List.getElem?_eq_some_iff.mp hxj).1
      have h2 : i < es.length := (List.getElem?_eq_some_iff.mp hi).1
      have h3 := hpw j i (by rw [List.length_map]; exact h1) (by rw [List.length_map]; exact h2) hj
      rw [List.getElem_map, List.getElem_map, (List.getElem?_eq_some_iff.mp hxj).2, (List.getElem?_eq_some_iff.mp hi).2] at h3
      exact h3 q
    refine r_gtup (SqT.of g1) rfl ?_
    walk_at "rd"
    refine ⟨e.1.q, _, rfl, .inr ⟨SqT.of g2, ?_⟩⟩
    walk_at "rd"
    have eb : H2 e.1.q = some (.tup ((ik e.1.k).map kV)) := by
      rw [g2]
      unfold ik
      rw [kv_ints]
    refine r_din ?_
    walk_at "rd"
    refine ⟨d, _, rfl, DGet.t hd2 eb, ?_⟩
    rw [tbl_none hno]
    refine r_bl (r_iteF ?_)
    walk_at "rd"
    refine r_dput ?_
    walk_at "rd"
    refine ⟨d, _, rfl, DPut.t hd2 eb (small1000 (by unfold tbl; rw [List.length_map, List.length_take]; omega)), ?_⟩
    refine ⟨_, _, _, same_away s2 nd, ?_, rfl⟩
    rw [upd_same, tbl_put hno, et]
    unfold tbl
    rw [List.map_append]
    rfl
  · rintro σ H2 ⟨y2, y3, y4, s2, hd2, rfl⟩
    rw [List.length_map, List.take_length] at hd2
    walk_at "rd"
    refine ⟨d, _, es.map (·.1.k), rfl, hd2, ?_, fun l qs pq sq hq nl => ?_⟩
    · unfold tbl
      rw [List.map_map, List.map_map]
      rfl
    obtain ⟨zs, pz, ez⟩ := perm_up (fun e : Ent × Vl => e.1.k) pq
    have s3 := same_upd nl (.lst (qs.map fun z => V.ref z.1))
    have hl3 : upd H2 l (.lst (qs.map fun z => V.ref z.1)) l = some (.lst (qs.map fun z => V.ref z.1)) := upd_same
    generalize upd H2 l (.lst (qs.map fun z => V.ref z.1)) = H3 at s3 hl3 ⊢
    refine ⟨l, rfl, ⟨_, SqL.of hl3⟩, fun D nD => ?_⟩
    refine lc_list (xs := qs.map fun z => V.ref z.1) (fun j H' => ∃ cs : List (Ent × Vl), Same H3 H' ∧ H' D = some (.lst (cs.map fun c => V.ref c.1.t)) ∧ (∀ c ∈ cs, EdAt H' c) ∧ cs.map pr = (zs.take j).map pr) ⟨[], same_upd nD _, upd_same, fun _ h => absurd h (by simp), rfl⟩ (fun j H' _ hh => by obtain ⟨cs, h1, _⟩ := hh; exact SqL.of (h1 _ _ hl3)) ?_ ?_
    · rintro j x H4 hx ⟨cs, s4, hD4, hc, ec⟩
      obtain ⟨z, hj, rfl, _⟩ := map_get hx
      have hjz : (zs.map fun e => e.1.k)[j]? = some z.2 := by
        rw [ez, List.getElem?_map, hj]
        rfl
      rw [List.getElem?_map] at hjz
      obtain ⟨e, hje, hke⟩ := Option.map_eq_some_iff.mp hjz
      have hem : e ∈ es := pz.mem_iff.mp (List.mem_of_getElem? hje)
      have hqz := s4 _ _ (s3 _ _ (hq z (List.mem_of_getElem? hj)))
      have hlc : cs.length ≤ 1000 := by
        have q := congrArg List.length ec
        rw [List.length_map, List.length_map, List.length_take, pz.length_eq] at q
        omega
      walk_at "rd"
      refine ⟨rfl, ?_⟩
      walk_at "rd"
      have eb : H4 z.1 = some (.tup ((ik z.2).map kV)) := by
        rw [hqz]
        unfold ik
        rw [kv_ints]
      refine r_dget ?_
      walk_at "rd"
      refine ⟨d, .ref e.1.u, rfl, ?_, ?_⟩
      · have q := DGet.t (s4 _ _ (s3 _ _ hd2)) eb
        rw [← hke, tbl_some hn hem] at q
        exact q
      refine ⟨by show 2 ≤ sizeLine; decide, fun T nT => ?_⟩
      have s5 := same_upd nT (.tup [.ref z.1, .ref e.1.u])
      have hD5 := s5 _ _ hD4
      have tk5 := (Same.tk s5).trans (tk_put (o := .lst ((cs.map fun c => V.ref c.1.t) ++ [.ref T])) hD5)
      refine ⟨_, hD5, small1000 (by rw [List.length_map]; have q := congrArg List.length ec; rw [List.length_map, List.length_map, List.length_take, pz.length_eq] at q; have := (List.getElem?_eq_some_iff.mp hje).1; rw [pz.length_eq] at this; omega), cs ++ [(⟨T, z.1, e.1.u, z.2⟩, e.2)], same_away (s4.trans s5) nD, ?_, fun c hcm => ?_, ?_⟩
      · rw [upd_same, List.map_append]
        rfl
      · rcases List.mem_append.mp hcm with q | q
        · exact (hc c q).tk tk5
        · have e5 : c = (⟨T, z.1, e.1.u, z.2⟩, e.2) := by simpa using q
          subst e5
          refine ⟨⟨tk_put hD5 _ _ upd_same, tk5 _ _ hqz⟩, ?_⟩
          exact Tp.tk tk5 _ _ (Tp.tk (Same.tk ((s2.trans s3).trans s4)) _ _ (he e hem).2)
      · rw [List.map_append, ec, take_one hje, List.map_append]
        show _ ++ [(z.2, e.2)] = _ ++ [(e.1.k, e.2)]
        rw [← hke]
    · rintro H4 ⟨cs, s4, hD4, hc, ec⟩
      rw [List.length_map] at ec
      have hql : qs.length = zs.length := by
        have q := congrArg List.length ez
        rw [List.length_map, List.length_map] at q
        exact q.symm
      rw [hql, List.take_length] at ec
      walk_at "rd"
      refine ⟨D, _, rfl, .inl ⟨SqL.of hD4, fun t nt => ?_⟩⟩
      walk_at "rd"
      refine ⟨by show 2 ≤ sizeLine; decide, fun q nq => ?_⟩
      have s6 := (same_upd nt (.tup (cs.map fun c => V.ref c.1.t))).trans (same_upd nq (.tup [.str "map", .ref t]))
      refine h (.ref q) (zs.map pr) _ (pz.map pr) ?_ (.tup upd_same (.cons (.str _) (.cons (.tup (same_upd nq _ _ _ upd_same) ?_) .nil))) (((s2.trans s3).trans s4).trans s6)
      · have e2 : (zs.map pr).map (·.1) = qs.map (·.2) := by
          rw [List.map_map, ← ez]
          rfl
        rw [e2]
        exact sq
      · rw [← ec]
        have hc6 : ∀ c ∈ cs, EdAt _ c := fun c hm => (hc c hm).tk (Same.tk s6)
        exact tpa_eds hc6
end

/-! ### frames -/



def FrAt (K : Frg) (H : Hp) (a l : Addr) (kind : Str) (key : V) (vs : List V) : Prop := ∃ dx, H a = some (.ins (C_Frame K) dx (fs_Frame (.str kind) key (.ref l))) ∧ H l = some (.lst vs)
theorem fr_ne {K : Frg} {H : Hp} {a l : Addr} {kind : Str} {key : V} {vs : List V} (h : FrAt K H a l kind key vs) : l ≠ a := by
  obtain ⟨dx, h1, h2⟩ := h
  rintro rfl
  rw [h1] at h2
  cases h2
theorem FrAt.same {K : Frg} {H H' : Hp} {a l : Addr} {kind : Str} {key : V} {vs : List V} (s : Same H H') (h : FrAt K H a l kind key vs) : FrAt K H' a l kind key vs := by
  obtain ⟨dx, h1, h2⟩ := h
  exact ⟨dx, s _ _ h1, s _ _ h2⟩
def sp_Frame___init__ (K : Frg) : Sp := sp2 fun p o H Q _ => ∃ a dx kind, p = .ref a ∧ o = .str kind ∧ H a = some (.ins (C_Frame K) dx []) ∧ ∀ l H', H l = none → l ≠ a → FrAt K H' a l kind .non [] → (∀ b u, b ≠ a → H b = some u → H' b = some u) → Q .non H'
def sp_Frame_put (K : Frg) : Sp := sp2 fun p o H Q _ => ∃ a l kind key vs, p = .ref a ∧ FrAt K H a l kind key vs ∧ vs.length ≤ 1000 ∧
  (kind = "map" → ∀ T H', H T = none → H' T = some (.tup [key, o]) → FrAt K H' a l kind key (vs ++ [.ref T]) → Bt l H H' → Q .non H') ∧
  (kind ≠ "map" → ∀ H', FrAt K H' a l kind key (vs ++ [o]) → Bt l H H' → Q .non H')
def sp_Frame_built (K : Frg) : Sp := sp1 fun p H Q _ => ∃ a l kind key vs, p = .ref a ∧ FrAt K H a l kind key vs ∧
  (kind = "map" → ∃ es : List (Ent × Vl), vs = es.map (fun e => V.ref e.1.t) ∧ (∀ e ∈ es, EdAt H e) ∧ (es.map (·.1.k)).Nodup ∧ es.length ≤ 1000 ∧
    ∀ v zs H', zs.Perm (es.map pr) → (zs.map (·.1)).Pairwise (fun x y => HT.lexLt x y = true) → Tp H' v (Vl.mp zs).dat → Same H H' → Q v H') ∧
  (kind ≠ "map" → ∃ ts, TpAll H vs (datL ts) ∧ ∀ v H', Tp H' v (Vl.ls ts).dat → Same H H' → Q v H')
section
variable {P : Program} {w : World} {K : PySem.W.Frag} {mg : Str → Option Value} {base : Heap} {f : Addr} {fd : FuncData}
theorem ok_Frame___init__ (F : FunD K "__init__" "Frame.__init__" (defArgs s_Frame___init__) (defBody s_Frame___init__) (defScope s_Frame___init__) [] [] (meAd "Frame" "__init__" K) fd) (nb : Nm K mg) : Mak P w K mg base 1 "Frame" (C_Frame K) (sp_Frame___init__ K) [] := by
  refine makD F nb.mk_Frame nb.g_Frame sc_Frame___init__ (fun _ _ _ _ _ _ us hl => match us, hl with | [_, _], _ => rfl) len2 (fun cdv A outer s H vs Q E hr h => ⟨_, (pss_cons (ps_fld (pv 0) (pv 1) rfl)
    (pss_cons (ps_fld (pv 0) pe_non rfl)
    (pss_one (ps_fld (pv 0) (pe_lst pa_nil) rfl)))), ?_⟩)
  obtain ⟨_, _, rfl, a, dx, kind, rfl, rfl, hA, h⟩ := h
  walk_at "rd"
  refine r_fsetK hA nb.cl_Frame nb.na_Frame_kind (by decide) (in_Frame_kind) fun H1 hA1 f1 => ?_
  walk_at "rd"
  refine r_fsetK hA1 nb.cl_Frame nb.na_Frame_key (by simp) (in_Frame_key) fun H2 hA2 f2 => ?_
  walk_at "rd"
  refine ⟨Nat.zero_le _, fun l hl => ?_⟩
  have hne : l ≠ a := fun z => by rw [z, hA2] at hl; cases hl
  have hl0 : H l = none := by
    rw [f2 l hne, f1 l hne] at hl
    exact hl
  have hA3 : upd H2 l (.lst []) a = some _ := (upd_ne (Ne.symm hne)).trans hA2
  have hL3 : upd H2 l (.lst []) l = some (.lst []) := upd_same
  have f3 : ∀ b u, b ≠ a → H b = some u → upd H2 l (.lst []) b = some u := fun b u h1 h2 => same_upd hl _ b u (by rw [f2 b h1, f1 b h1]; exact h2)
  generalize upd H2 l (.lst []) = H3 at hA3 hL3 f3 ⊢
  walk_at "rd"
  refine r_fsetK hA3 nb.cl_Frame nb.na_Frame_inside (by simp) (in_Frame_inside) fun H4 hA4 f4 => ?_
  exact h l H4 hl0 hne ⟨dx, hA4, by rw [f4 l hne]; exact hL3⟩ fun b u h1 h2 => by rw [f4 b h1]; exact f3 b u h1 h2
theorem ok_Frame_put (F : FunD K "put" "Frame.put" (defArgs s_Frame_put) (defBody s_Frame_put) (defScope s_Frame_put) [] [] (meAd "Frame" "put" K) fd) (nb : Nm K mg) : Met P w K mg base 1 (C_Frame K) "put" (sp_Frame_put K) [] := by
  refine metD F nb.cl_Frame nb.me_Frame_put sc_Frame_put (fun _ _ _ _ _ _ us hl => match us, hl with | [_, _], _ => rfl) len2 (fun cdv A outer s H vs Q E hr h => ⟨_, (pss_one (ps_if (pt_cmpR op_eq (pe_fld (pv 0) rfl) pe_str (nomark _))
    (pss_one (ps_expr (pe_bm PySem.F.plainAttrs_list PySem.F.slot_list_append PySem.F.type_list_append mt_append (pe_fld (pv 0) rfl) (pa_cons (pe_tup (pa_cons (pe_fld (pv 0) rfl) (pa_cons (pv 1) pa_nil))) pa_nil))))
    (pss_one (ps_expr (pe_bm PySem.F.plainAttrs_list PySem.F.slot_list_append PySem.F.type_list_append mt_append (pe_fld (pv 0) rfl) (pa_cons (pv 1) pa_nil)))))), ?_⟩)
  obtain ⟨_, v, rfl, a, l, kind, key, vs, rfl, hF, hlen, h1, h2⟩ := h
  have hne := fr_ne hF
  obtain ⟨dx, hA, hL⟩ := id hF
  walk_at "rd"
  refine r_fget hA nb.cl_Frame nb.na_Frame_kind lk_Frame_kind ?_
  walk_at "rd"
  refine r_ite (fun c => ?_) (fun c => ?_)
  · walk_at "rd"
    refine r_fget hA nb.cl_Frame nb.na_Frame_inside lk_Frame_inside ?_
    refine ⟨tyL hL, ?_⟩
    walk_at "rd"
    refine r_fget hA nb.cl_Frame nb.na_Frame_key lk_Frame_key ?_
    walk_at "rd"
    refine ⟨by show 2 ≤ sizeLine; decide, fun T nT => ?_⟩
    have s1 := same_upd nT (.tup [key, v])
    walk_at "rd"
    refine r_appK (s1 _ _ hL) (small1000 (by omega) |> fun z => z) fun H2 hL2 f2 => ?_
    have lT : T ≠ l := fun e => by rw [e, hL] at nT; cases nT
    exact h1 c T H2 nT (by rw [f2 T lT, upd_same]) ⟨dx, by rw [f2 a (Ne.symm hne)]; exact s1 _ _ hA, hL2⟩ fun b u n1 z => by rw [f2 b n1]; exact s1 _ _ z
  · walk_at "rd"
    refine r_fget hA nb.cl_Frame nb.na_Frame_inside lk_Frame_inside ?_
    refine ⟨tyL hL, ?_⟩
    walk_at "rd"
    refine r_appK hL (small1000 (by omega)) fun H2 hL2 f2 => ?_
    exact h2 c H2 ⟨dx, by rw [f2 a (Ne.symm hne)]; exact hA, hL2⟩ fun b u n1 z => by rw [f2 b n1]; exact z
theorem ok_Frame_built (F : FunD K "built" "Frame.built" (defArgs s_Frame_built) (defBody s_Frame_built) (defScope s_Frame_built) [] [] (meAd "Frame" "built" K) fd) (nb : Nm K mg) (c_list_of : Cal P w K mg base 1 "list_of" (sp_list_of K) []) (c_map_of : Cal P w K mg base 1 "map_of" (sp_map_of K) []) : Met P w K mg base 2 (C_Frame K) "built" (sp_Frame_built K) [] := by
  refine metD F nb.cl_Frame nb.me_Frame_built sc_Frame_built (fun _ _ _ _ _ _ us hl => match us, hl with | [_], _ => rfl) len1 (fun cdv A outer s H vs Q E hr h => ⟨_, (pss_cons (ps_if (pt_cmpR op_eq (pe_fld (pv 0) rfl) pe_str (nomark _))
    (pss_one (ps_ret (pe_c c_map_of hr (by decide) rfl (pa_cons (pe_fld (pv 0) rfl) pa_nil))))
    pss_nil)
    (pss_one (ps_ret (pe_c c_list_of hr (by decide) rfl (pa_cons (pe_fld (pv 0) rfl) pa_nil))))), ?_⟩)
  obtain ⟨_, rfl, a, l, kind, key, vs, rfl, ⟨dx, hA, hL⟩, h1, h2⟩ := h
  walk_at "rd"
  refine r_fget hA nb.cl_Frame nb.na_Frame_kind lk_Frame_kind ?_
  walk_at "rd"
  refine r_ite (fun c => ?_) (fun c => ?_)
  · obtain ⟨es, rfl, he, hn, hl, hq⟩ := h1 c
    walk_at "rd"
    refine r_fget hA nb.cl_Frame nb.na_Frame_inside lk_Frame_inside ?_
    walk_at "rd"
    exact ⟨_, rfl, l, es, rfl, hL, he, hn, hl, hq⟩
  · obtain ⟨ts, ht, hq⟩ := h2 c
    walk_at "rd"
    refine r_fget hA nb.cl_Frame nb.na_Frame_inside lk_Frame_inside ?_
    walk_at "rd"
    exact ⟨_, rfl, l, vs, ts, rfl, hL, ht, hq⟩
end

/-! ### the builder, as it ought to be -/
structure Pf where
  m : Bool
  k : Option (List Int)
  ins : List (List Int × Vl)
structure Bs where
  fs : List Pf
  val : Option Vl
def sortM (es : List (List Int × Vl)) : List (List Int × Vl) := es.mergeSort fun a b => !HT.lexLt b.1 a.1
theorem sortM_perm (es : List (List Int × Vl)) : (sortM es).Perm es := List.mergeSort_perm es _
theorem sortM_strict {es : List (List Int × Vl)} (h : (es.map (·.1)).Nodup) : ((sortM es).map (·.1)).Pairwise (fun x y => HT.lexLt x y = true) := by
  have h1 := List.pairwise_mergeSort (le := fun (a b : List Int × Vl) => !HT.lexLt b.1 a.1) (fun a b c q1 q2 => by
    simp only [Bool.not_eq_true'] at q1 q2 ⊢
    exact lexLt_ntr _ _ _ q1 q2) (fun a b => by
    cases q : HT.lexLt b.1 a.1 with
    | false => rfl
    | true => rw [lexLt_asym _ _ q]; rfl) es
  refine strict_of ?_ (((sortM_perm es).map (·.1)).nodup_iff.mpr h)
  rw [List.pairwise_map]
  exact h1.imp fun {a b} q => by simpa using q
theorem strict_nodup {l : List (List Int)} (h : l.Pairwise (fun x y => HT.lexLt x y = true)) : l.Nodup := h.imp fun {a b} q e => by
  subst e
  rw [lexLt_irr] at q
  cases q
theorem sortM_uniq {zs es : List (List Int × Vl)} (p : zs.Perm es) (s : (zs.map (·.1)).Pairwise (fun x y => HT.lexLt x y = true)) : zs = sortM es :=
  sorted_uniq (p.trans (sortM_perm es).symm) s (sortM_strict ((p.map (·.1)).nodup_iff.mp (strict_nodup s)))
theorem sortM_id {es : List (List Int × Vl)} (s : (es.map (·.1)).Pairwise (fun x y => HT.lexLt x y = true)) : sortM es = es := (sortM_uniq (List.Perm.refl es) s).symm
def Bs.putv (st : Bs) (v : Vl) : Bs := match st.fs with
  | [] => ⟨[], some v⟩
  | f :: r => ⟨⟨f.m, f.k, f.ins ++ [(if f.m then f.k.getD [] else [], v)]⟩ :: r, st.val⟩
def Pf.built (f : Pf) : Vl := if f.m then .mp (sortM f.ins) else .ls (f.ins.map (·.2))
def Bs.step (st : Bs) : Ev → Bs
  | .op m => ⟨⟨m, none, []⟩ :: st.fs, st.val⟩
  | .ky k => match st.fs with
    | [] => st
    | f :: r => ⟨⟨f.m, some k, f.ins⟩ :: r, st.val⟩
  | .lf k r => st.putv (.lf k r)
  | .cl => match st.fs with
    | [] => st
    | f :: r => (Bs.mk r st.val).putv f.built
def Bs.ready (st : Bs) : Prop := ∀ f r, st.fs = f :: r → (f.m = true → ∃ k, f.k = some k) ∧ f.ins.length ≤ 900
def Bs.valid (st : Bs) : Ev → Prop
  | .op _ => st.fs.length ≤ 900
  | .ky _ => ∃ f r, st.fs = f :: r
  | .lf _ _ => st.ready
  | .cl => ∃ f r, st.fs = f :: r ∧ (f.m = true → (f.ins.map (·.1)).Nodup) ∧ f.ins.length ≤ 900 ∧ (Bs.mk r st.val).ready
/-! ### .. and where it stands -/
structure Cf where
  a : Addr
  l : Addr
  f : Pf
def FmAt (K : Frg) (H : Hp) (c : Cf) : Prop := ∃ key vs, FrAt K H c.a c.l (kindOf_ c.f.m) key vs ∧ (∀ k, c.f.k = some k → ∃ q, key = .ref q ∧ H q = some (.tup (k.map V.int))) ∧
  (c.f.m = true → ∃ es : List (Ent × Vl), vs = es.map (fun e => V.ref e.1.t) ∧ (∀ e ∈ es, EdAt H e) ∧ c.f.ins = es.map pr) ∧ (c.f.m = false → TpAll H vs (datL (c.f.ins.map (·.2))))
theorem FmAt.keep {K : Frg} {H H' : Hp} {c : Cf} (h : FmAt K H c) (ha : ∀ u, H c.a = some u → H' c.a = some u) (hl : ∀ u, H c.l = some u → H' c.l = some u) (tk : Tk H H') : FmAt K H' c := by
  obtain ⟨key, vs, ⟨dx, h1, h2⟩, h3, h4, h5⟩ := h
  refine ⟨key, vs, ⟨dx, ha _ h1, hl _ h2⟩, fun k e => ?_, fun e => ?_, fun e => TpAll.tk tk _ _ (h5 e)⟩
  · obtain ⟨q, e1, e2⟩ := h3 k e
    exact ⟨q, e1, tk _ _ e2⟩
  · obtain ⟨es, e1, e2, e3⟩ := h4 e
    exact ⟨es, e1, fun x hx => (e2 x hx).tk tk, e3⟩
def ownC (cs : List Cf) : List Addr := cs.flatMap fun c => [c.a, c.l]
def own (b fl : Addr) (cs : List Cf) : List Addr := b :: fl :: ownC cs
theorem ownC_mem {cs : List Cf} {c : Cf} (h : c ∈ cs) : c.a ∈ ownC cs ∧ c.l ∈ ownC cs := ⟨List.mem_flatMap.mpr ⟨c, h, by simp⟩, List.mem_flatMap.mpr ⟨c, h, by simp⟩⟩
def ValAt (H : Hp) (v : V) : Option Vl → Prop
  | none => v = .non
  | some t => Tp H v t.dat
theorem ValAt.tk {H H' : Hp} {v : V} (k : Tk H H') : ∀ {o : Option Vl}, ValAt H v o → ValAt H' v o
  | none, h => h
  | some t, h => Tp.tk k _ _ h
structure BAt (K : Frg) (H : Hp) (b fl : Addr) (st : Bs) (cs : List Cf) : Prop where
  bu : ∃ dx v, H b = some (.ins (C_Builder K) dx (fs_Builder (.bl st.val.isSome) v (.ref fl))) ∧ ValAt H v st.val
  li : H fl = some (.lst (cs.reverse.map fun c => V.ref c.a))
  fs : cs.map (·.f) = st.fs
  at_ : ∀ c ∈ cs, FmAt K H c
  nd : (own b fl cs).Nodup
/-- all that is not one's own stays -/
def Ow (o : List Addr) (H H' : Hp) : Prop := ∀ x u, x ∉ o → H x = some u → H' x = some u
theorem Ow.trans {o : List Addr} {H H1 H2 : Hp} (x : Ow o H H1) (y : Ow o H1 H2) : Ow o H H2 := fun a u n h => y a u n (x a u n h)
theorem Ow.of {o : List Addr} {H H' : Hp} (s : Same H H') : Ow o H H' := fun a u _ h => s a u h
theorem BAt.same {K : Frg} {H H' : Hp} {b fl : Addr} {st : Bs} {cs : List Cf} (s : Same H H') (h : BAt K H b fl st cs) : BAt K H' b fl st cs := by
  obtain ⟨⟨dx, v, h1, h2⟩, h3, h4, h5, h6⟩ := h
  exact ⟨⟨dx, v, s _ _ h1, h2.tk (Same.tk s)⟩, s _ _ h3, h4, fun c hc => (h5 c hc).keep (fun u => s _ _) (fun u => s _ _) (Same.tk s), h6⟩
/-- another's work leaves it alone -/
theorem BAt.away {K : Frg} {H H' : Hp} {b fl : Addr} {st : Bs} {cs : List Cf} {o : List Addr} (h : BAt K H b fl st cs) (w : Ow o H H') (tk : Tk H H') (n : ∀ x ∈ own b fl cs, x ∉ o) : BAt K H' b fl st cs := by
  obtain ⟨⟨dx, v, h1, h2⟩, h3, h4, h5, h6⟩ := h
  have nc : ∀ c ∈ cs, c.a ∉ o ∧ c.l ∉ o := fun c hc => ⟨n _ (List.mem_cons_of_mem _ (List.mem_cons_of_mem _ (ownC_mem hc).1)), n _ (List.mem_cons_of_mem _ (List.mem_cons_of_mem _ (ownC_mem hc).2))⟩
  exact ⟨⟨dx, v, w _ _ (n _ (List.mem_cons_self ..)) h1, h2.tk tk⟩, w _ _ (n _ (List.mem_cons_of_mem _ (List.mem_cons_self ..))) h3, h4, fun c hc => (h5 c hc).keep (fun u => w _ _ (nc c hc).1) (fun u => w _ _ (nc c hc).2) tk, h6⟩



def sp_Builder___init__ (K : Frg) : Sp := sp1 fun p H Q _ => ∃ b dx, p = .ref b ∧ H b = some (.ins (C_Builder K) dx []) ∧ ∀ fl H', H fl = none → fl ≠ b → BAt K H' b fl ⟨[], none⟩ [] → (∀ x u, x ≠ b → H x = some u → H' x = some u) → Q .non H'
def sp_Builder__put (K : Frg) : Sp := sp2 fun p o H Q _ => ∃ b fl st cs t, p = .ref b ∧ BAt K H b fl st cs ∧ Tp H o t.dat ∧ st.ready ∧ st.val = none ∧ ∀ cs' H', BAt K H' b fl (st.putv t) cs' → own b fl cs' = own b fl cs → Ow (own b fl cs) H H' → Tk H H' → Q .non H'
def sp_Builder_take (K : Frg) : Sp := sp2 fun p o H Q _ => ∃ b fl st cs ev, p = .ref b ∧ BAt K H b fl st cs ∧ Tp H o (Ev.dat ev) ∧ st.valid ev ∧ st.val = none ∧ ∀ cs' H', BAt K H' b fl (st.step ev) cs' → (∀ x ∈ own b fl cs', x ∈ own b fl cs ∨ H x = none) → Ow (own b fl cs) H H' → Tk H H' → Q .non H'

theorem d_frame {K : Frg} {H : Hp} {R : Addr → Hp → Prop} {E : XK} {kind : Str} (h : ∀ a l H', H a = none → H l = none → l ≠ a → FrAt K H' a l kind .non [] → Same H H' → R a H') : ∀ x dx, H x = none → H dx = none → dx ≠ x → sp_Frame___init__ K (.ref x :: ([.str kind] ++ [])) (upd (upd H dx (.own x)) x (.ins (C_Frame K) dx [])) (fun v H2 => v = .non ∧ R x H2) E := by
  intro a dx ha hd hne
  refine ⟨_, _, rfl, a, dx, kind, rfl, rfl, upd_same, fun l H' hl hla hU g => ⟨rfl, ?_⟩⟩
  have hl0 : H l = none := by
    rw [upd_ne hla] at hl
    by_cases e : l = dx
    · rw [e] at hl ⊢
      exact hd
    · rw [upd_ne e] at hl
      exact hl
  refine h a l H' ha hl0 hla hU fun b u z => ?_
  have h1 : b ≠ a := fun e => by
    rw [e, ha] at z
    cases z
  have h2 : b ≠ dx := fun e => by
    rw [e, hd] at z
    cases z
  exact g b u h1 (by rw [upd_ne h1, upd_ne h2]; exact z)
theorem rev_map_cons (c : Cf) (cr : List Cf) : ((c :: cr).reverse.map fun c => V.ref c.a) = (cr.reverse.map fun c => V.ref c.a) ++ [V.ref c.a] := by
  rw [List.reverse_cons, List.map_append]
  rfl
theorem cs_cons {cs : List Cf} {f : Pf} {r : List Pf} (h : cs.map (·.f) = f :: r) : ∃ c cr, cs = c :: cr ∧ c.f = f ∧ cr.map (·.f) = r := by
  cases cs with
  | nil => cases h
  | cons c cr =>
    injection h with h1 h2
    exact ⟨c, cr, rfl, h1, h2⟩
theorem kind_map (m : Bool) : kindOf_ m = "map" ↔ m = true := by
  cases m with
  | true => exact ⟨fun _ => rfl, fun _ => rfl⟩
  | false => exact ⟨fun h => absurd h (by decide +kernel), fun h => by cases h⟩
theorem sub_own {b fl : Addr} {c : Cf} {cr : List Cf} : ∀ x ∈ own b fl cr, x ∈ own b fl (c :: cr) := fun x hx => by
  unfold own at hx ⊢
  rcases List.mem_cons.mp hx with e | hx
  · exact List.mem_cons.mpr (.inl e)
  · rcases List.mem_cons.mp hx with e | hx
    · exact List.mem_cons_of_mem _ (List.mem_cons.mpr (.inl e))
    · refine List.mem_cons_of_mem _ (List.mem_cons_of_mem _ ?_)
      show x ∈ [c.a, c.l] ++ ownC cr
      exact List.mem_append_right _ hx
section
variable {P : Program} {w : World} {K : PySem.W.Frag} {mg : Str → Option Value} {base : Heap} {f : Addr} {fd : FuncData}
theorem ok_Builder___init__ (F : FunD K "__init__" "Builder.__init__" (defArgs s_Builder___init__) (defBody s_Builder___init__) (defScope s_Builder___init__) [] [] (meAd "Builder" "__init__" K) fd) (nb : Nm K mg) : Mak P w K mg base 1 "Builder" (C_Builder K) (sp_Builder___init__ K) [] := by
  refine makD F nb.mk_Builder nb.g_Builder sc_Builder___init__ (fun _ _ _ _ _ _ us hl => match us, hl with | [_], _ => rfl) len1 (fun cdv A outer s H vs Q E hr h => ⟨_, (pss_cons (ps_fld (pv 0) pe_bl rfl)
    (pss_cons (ps_fld (pv 0) pe_non rfl)
    (pss_one (ps_fld (pv 0) (pe_lst pa_nil) rfl)))), ?_⟩)
  obtain ⟨_, rfl, b, dx, rfl, hA, h⟩ := h
  walk_at "rd"
  refine r_fsetK hA nb.cl_Builder nb.na_Builder_is_done (by decide) (in_Builder_is_done) fun H1 hA1 f1 => ?_
  walk_at "rd"
  refine r_fsetK hA1 nb.cl_Builder nb.na_Builder_value (by simp) (in_Builder_value) fun H2 hA2 f2 => ?_
  walk_at "rd"
  refine ⟨Nat.zero_le _, fun l hl => ?_⟩
  have hne : l ≠ b := fun z => by rw [z, hA2] at hl; cases hl
  have hl0 : H l = none := by
    rw [f2 l hne, f1 l hne] at hl
    exact hl
  have hA3 : upd H2 l (.lst []) b = some _ := (upd_ne (Ne.symm hne)).trans hA2
  have hL3 : upd H2 l (.lst []) l = some (.lst []) := upd_same
  have f3 : ∀ x u, x ≠ b → H x = some u → upd H2 l (.lst []) x = some u := fun x u h1 h2 => same_upd hl _ x u (by rw [f2 x h1, f1 x h1]; exact h2)
  generalize upd H2 l (.lst []) = H3 at hA3 hL3 f3 ⊢
  walk_at "rd"
  refine r_fsetK hA3 nb.cl_Builder nb.na_Builder__frames (by simp) (in_Builder__frames) fun H4 hA4 f4 => ?_
  refine h l H4 hl0 hne ⟨⟨dx, .non, hA4, rfl⟩, by rw [f4 l hne]; exact hL3, rfl, fun c hc => absurd hc (by simp), ?_⟩ fun x u h1 h2 => by rw [f4 x h1]; exact f3 x u h1 h2
  show [b, l].Nodup
  rw [List.nodup_cons]
  exact ⟨by simpa using Ne.symm hne, by simp⟩
theorem ok_Builder__put (F : FunD K "_put" "Builder._put" (defArgs s_Builder__put) (defBody s_Builder__put) (defScope s_Builder__put) [] [] (meAd "Builder" "_put" K) fd) (nb : Nm K mg) (m_Frame_put : Met P w K mg base 1 (C_Frame K) "put" (sp_Frame_put K) []) : Met P w K mg base 2 (C_Builder K) "_put" (sp_Builder__put K) [] := by
  refine metD F nb.cl_Builder nb.me_Builder__put sc_Builder__put (fun _ _ _ _ _ _ us hl => match us, hl with | [_, _], _ => rfl) len2 (fun cdv A outer s H vs Q E hr h => ⟨_, (pss_one (ps_if (pt_truth (pe_fld (pv 0) rfl) (by intro _; rfl))
    (pss_cons (ps_set (i := 2) sc_Builder__put.nd rfl (Or.inl rfl) (pe_ix ix_list (pe_fld (pv 0) rfl) (pe_un un_neg pe_int) (fun _ _ => rfl)))
    (pss_one (ps_expr (pe_mt m_Frame_put hr (by decide) (pv 2) (pa_cons (pv 1) pa_nil)))))
    (pss_cons (ps_fld (pv 0) (pv 1) rfl)
    (pss_one (ps_fld (pv 0) pe_bl rfl))))), ?_⟩)
  obtain ⟨_, v, rfl, b, fl, st, cs, t, rfl, B, tp, rdy, hval, h⟩ := h
  obtain ⟨⟨dx, bv, hb, hbv⟩, hli, hfs, hat, hnd⟩ := id B
  have hfb : fl ≠ b := fun e => by
    have := hnd
    unfold own at this
    rw [List.nodup_cons] at this
    exact this.1 (by rw [e]; exact List.mem_cons_self ..)
  walk_at "rd"
  refine r_fget hb nb.cl_Builder nb.na_Builder__frames lk_Builder__frames ?_
  cases hst : st.fs with
  | nil =>
    rw [hst] at hfs
    obtain rfl : cs = [] := List.map_eq_nil_iff.mp hfs
    refine ⟨false, .inl ⟨_, SqL.of hli, rfl⟩, ?_⟩
    walk_at "rd"
    refine r_fsetK hb nb.cl_Builder nb.na_Builder_value (few_Builder) pt_Builder_value fun H1 hA1 f1 => ?_
    walk_at "rd"
    refine r_fsetK hA1 nb.cl_Builder nb.na_Builder_is_done (few_Builder) pt_Builder_is_done fun H2 hA2 f2 => ?_
    have tk : Tk H H2 := fun x ys hx => by
      have n : x ≠ b := fun e => by rw [e, hb] at hx; cases hx
      rw [f2 x n, f1 x n]
      exact hx
    have e : st.putv t = ⟨[], some t⟩ := by
      unfold Bs.putv
      rw [hst]
    rw [e] at h
    refine h [] H2 ⟨⟨dx, v, hA2, Tp.tk tk _ _ tp⟩, by rw [f2 fl hfb, f1 fl hfb]; exact hli, rfl, fun c hc => absurd hc (by simp), hnd⟩ rfl (fun x u n hx => ?_) tk
    have n : x ≠ b := fun e => n (by rw [e]; exact List.mem_cons_self ..)
    rw [f2 x n, f1 x n]
    exact hx
  | cons pf r =>
    rw [hst] at hfs
    obtain ⟨c, cr, rfl, rfl, rfl⟩ := cs_cons hfs
    rw [rev_map_cons] at hli
    refine ⟨true, .inl ⟨_, SqL.of hli, by simp⟩, ?_⟩
    walk_at "rd"
    refine r_fget hb nb.cl_Builder nb.na_Builder__frames lk_Builder__frames ?_
    walk_at "rd"
    refine r_ixL (SqL.of hli) (atI_last _ _) ?_
    walk_at "rd"
    obtain ⟨key, vs, hF, hk, hmp, hls⟩ := hat c (List.mem_cons_self ..)
    obtain ⟨dxc, hca, hcl⟩ := id hF
    obtain ⟨rk, rl⟩ := rdy c.f _ hst
    have hvl : vs.length ≤ 900 := by
      cases hm : c.f.m with
      | true =>
        obtain ⟨es, e1, e2, e3⟩ := hmp hm
        rw [e1, List.length_map]
        rw [e3, List.length_map] at rl
        exact rl
      | false =>
        have q := tpAll_len (hls hm)
        rw [datL_map, List.length_map, List.length_map] at q
        rw [q]
        exact rl
    -- apart from the top's own list
    have ndc : c.l ∉ b :: fl :: ownC cr ∧ c.l ≠ c.a := by
      have q : (b :: fl :: c.a :: c.l :: ownC cr).Nodup := hnd
      simp only [List.nodup_cons, List.mem_cons, not_or] at q ⊢
      obtain ⟨⟨q1, q2, q3, q4⟩, ⟨q5, q6, q7⟩, ⟨q8, q9⟩, q10, q11⟩ := q
      exact ⟨⟨Ne.symm q3, Ne.symm q6, q10⟩, Ne.symm q8⟩
    obtain ⟨ndl, ndla⟩ := ndc
    simp only [List.mem_cons, not_or] at ndl
    obtain ⟨nlb, nlf, nlr⟩ := ndl
    have e : st.putv t = ⟨⟨c.f.m, c.f.k, c.f.ins ++ [(if c.f.m then c.f.k.getD [] else [], t)]⟩ :: cr.map (·.f), st.val⟩ := by
      unfold Bs.putv
      rw [hst]
    rw [e] at h
    have fin : ∀ (H' : Hp) (vs' : List V), FrAt K H' c.a c.l (kindOf_ c.f.m) key vs' → Bt c.l H H' → (c.f.m = true → ∃ es : List (Ent × Vl), vs' = es.map (fun e => V.ref e.1.t) ∧ (∀ e ∈ es, EdAt H' e) ∧ c.f.ins ++ [(if c.f.m then c.f.k.getD [] else [], t)] = es.map pr) → (c.f.m = false → TpAll H' vs' (datL ((c.f.ins ++ [(if c.f.m then c.f.k.getD [] else [], t)]).map (·.2)))) → Q .non H' := fun H' vs' g1 g2 g3 g4 => by
      have tk : Tk H H' := Bt.tk hcl g2
      refine h (⟨c.a, c.l, ⟨c.f.m, c.f.k, c.f.ins ++ [(if c.f.m then c.f.k.getD [] else [], t)]⟩⟩ :: cr) H' ⟨⟨dx, bv, g2 _ _ (Ne.symm nlb) hb, hbv.tk tk⟩, ?_, rfl, fun x hx => ?_, hnd⟩ rfl (fun x u n hx => g2 x u (fun z => n ?_) hx) tk
      · rw [rev_map_cons]
        exact g2 _ _ (Ne.symm nlf) hli
      · rcases List.mem_cons.mp hx with q | q
        · subst q
          refine ⟨key, vs', g1, fun k ek => ?_, g3, g4⟩
          obtain ⟨q, e1, e2⟩ := hk k ek
          exact ⟨q, e1, tk _ _ e2⟩
        · obtain ⟨m1, m2⟩ := ownC_mem q
          exact (hat x (List.mem_cons_of_mem _ q)).keep (fun u => g2 _ u fun z => nlr (z ▸ m1)) (fun u => g2 _ u fun z => nlr (z ▸ m2)) tk
      · rw [z]
        show c.l ∈ own b fl (c :: cr)
        exact List.mem_cons_of_mem _ (List.mem_cons_of_mem _ (ownC_mem (List.mem_cons_self ..)).2)
    refine r_mget hca no_Frame_put ?_
    walk_at "rd"
    refine ⟨_, _, rfl, c.a, c.l, kindOf_ c.f.m, key, vs, rfl, hF, by omega, fun hkm T H' nT gT g1 g2 => ?_, fun hkm H' g1 g2 => ?_⟩
    · have hm := (kind_map c.f.m).mp hkm
      obtain ⟨es, e1, e2, e3⟩ := hmp hm
      obtain ⟨kk, ek⟩ := rk hm
      obtain ⟨q, rfl, hq⟩ := hk kk ek
      obtain ⟨u, rfl⟩ := vl_ref tp
      have tk : Tk H H' := Bt.tk hcl g2
      refine fin H' _ g1 g2 (fun _ => ⟨es ++ [(⟨T, q, u, kk⟩, t)], ?_, fun x hx => ?_, ?_⟩) (fun z => absurd (hm.symm.trans z) (by decide))
      · rw [e1, List.map_append]
        rfl
      · rcases List.mem_append.mp hx with p | p
        · exact (e2 x p).tk tk
        · have e5 : x = (⟨T, q, u, kk⟩, t) := by simpa using p
          subst e5
          exact ⟨⟨gT, tk _ _ hq⟩, Tp.tk tk _ _ tp⟩
      · rw [e3, List.map_append, hm, ek]
        rfl
    · have hm : c.f.m = false := by
        cases hm : c.f.m with
        | true => exact absurd ((kind_map c.f.m).mpr hm) hkm
        | false => rfl
      have tk : Tk H H' := Bt.tk hcl g2
      refine fin H' _ g1 g2 (fun z => absurd (hm.symm.trans z) (by decide)) fun _ => ?_
      rw [List.map_append, datL_app]
      exact tpAll_app (TpAll.tk tk _ _ (hls hm)) (.cons (Tp.tk tk _ _ tp) .nil)
end

theorem mem_own {b fl : Addr} {cs : List Cf} {x : Addr} : x ∈ own b fl cs ↔ x = b ∨ x = fl ∨ x ∈ ownC cs := by
  unfold own
  rw [List.mem_cons, List.mem_cons]
theorem mem_ownC {c : Cf} {cr : List Cf} {x : Addr} : x ∈ ownC (c :: cr) ↔ x = c.a ∨ x = c.l ∨ x ∈ ownC cr := by
  show x ∈ c.a :: c.l :: ownC cr ↔ _
  rw [List.mem_cons, List.mem_cons]
theorem tp_ev1 {H : Hp} {v : V} {k : Str} {d : PyData} (h : Tp H v (.tuple [.str k, d])) : ∃ T u, v = .ref T ∧ H T = some (.tup [.str k, u]) ∧ Tp H u d := by
  obtain ⟨T, vs, rfl, h1, h2⟩ := tp_tup h
  cases h2 with
  | cons x1 x2 =>
    cases x1
    cases x2 with
    | cons y1 y2 =>
      cases y2
      exact ⟨T, _, rfl, h1, y1⟩
theorem FmAt.live {K : Frg} {H : Hp} {c : Cf} (h : FmAt K H c) : (∃ u, H c.a = some u) ∧ ∃ u, H c.l = some u := by
  obtain ⟨key, vs, ⟨dx, h1, h2⟩, _⟩ := h
  exact ⟨⟨_, h1⟩, _, h2⟩
theorem BAt.live {K : Frg} {H : Hp} {b fl : Addr} {st : Bs} {cs : List Cf} (B : BAt K H b fl st cs) : ∀ x ∈ own b fl cs, ∃ u, H x = some u := by
  intro x hx
  obtain ⟨⟨dx, v, h1, h2⟩, h3, h4, h5, h6⟩ := B
  rcases mem_own.mp hx with e | e | e
  · rw [e]
    exact ⟨_, h1⟩
  · rw [e]
    exact ⟨_, h3⟩
  · obtain ⟨c, hc, q⟩ := List.mem_flatMap.mp e
    obtain ⟨l1, l2⟩ := (h5 c hc).live
    rcases List.mem_cons.mp q with q | q
    · rw [q]
      exact l1
    · have q : x = c.l := by simpa using q
      rw [q]
      exact l2
section
variable {P : Program} {w : World} {K : PySem.W.Frag} {mg : Str → Option Value} {base : Heap} {f : Addr} {fd : FuncData}
theorem ok_Builder_take (F : FunD K "take" "Builder.take" (defArgs s_Builder_take) (defBody s_Builder_take) (defScope s_Builder_take) [] [] (meAd "Builder" "take" K) fd) (nb : Nm K mg) (k_Frame : Mak P w K mg base 1 "Frame" (C_Frame K) (sp_Frame___init__ K) []) (m_Frame_built : Met P w K mg base 2 (C_Frame K) "built" (sp_Frame_built K) []) (m_Builder__put : Met P w K mg base 2 (C_Builder K) "_put" (sp_Builder__put K) []) : Met P w K mg base 3 (C_Builder K) "take" (sp_Builder_take K) [] := by
  refine metD F nb.cl_Builder nb.me_Builder_take sc_Builder_take (fun _ _ _ _ _ _ us hl => match us, hl with | [_, _], _ => rfl) len2 (fun cdv A outer s H vs Q E hr h => ⟨_, (pss_one (ps_if (pt_cmpR op_eq (pe_ix ix_tup (pv 1) pe_int (fun _ _ => rfl)) pe_str (nomark _))
    (pss_one (ps_expr (pe_bm PySem.F.plainAttrs_list PySem.F.slot_list_append PySem.F.type_list_append mt_append (pe_fld (pv 0) rfl) (pa_cons (pe_mk k_Frame hr (by decide) rfl (pa_cons (pe_ix ix_tup (pv 1) pe_int (fun _ _ => rfl)) pa_nil)) pa_nil))))
    (pss_one (ps_if (pt_cmpR op_eq (pe_ix ix_tup (pv 1) pe_int (fun _ _ => rfl)) pe_str (nomark _))
    (pss_cons (ps_set (i := 2) sc_Builder_take.nd rfl (Or.inl rfl) (pe_ix ix_list (pe_fld (pv 0) rfl) (pe_un un_neg pe_int) (fun _ _ => rfl)))
    (pss_one (ps_fld (pv 2) (pe_ix ix_tup (pv 1) pe_int (fun _ _ => rfl)) rfl)))
    (pss_one (ps_if (pt_cmpR op_eq (pe_ix ix_tup (pv 1) pe_int (fun _ _ => rfl)) pe_str (nomark _))
    (pss_one (ps_expr (pe_mt m_Builder__put hr (by decide) (pv 0) (pa_cons (pe_ix ix_tup (pv 1) pe_int (fun _ _ => rfl)) pa_nil))))
    (pss_cons (ps_set (i := 2) sc_Builder_take.nd rfl (Or.inl rfl) (pe_bm0 PySem.F.plainAttrs_list PySem.F.slot_list_pop PySem.F.type_list_pop mt_pop (pe_fld (pv 0) rfl)))
    (pss_one (ps_expr (pe_mt m_Builder__put hr (by decide) (pv 0) (pa_cons (pe_mt0 m_Frame_built hr (by decide) (pv 2)) pa_nil))))))))))), ?_⟩)
  obtain ⟨_, v, rfl, b, fl, st, cs, ev, rfl, B, tp, val, hval, h⟩ := h
  obtain ⟨⟨dx, bv, hb, hbv⟩, hli, hfs, hat, hnd⟩ := id B
  have bfl : b ≠ fl := fun e => by
    have q : (b :: fl :: ownC cs).Nodup := hnd
    rw [List.nodup_cons] at q
    exact q.1 (by rw [e]; exact List.mem_cons_self ..)
  have flo : fl ∉ ownC cs := by
    have q : (b :: fl :: ownC cs).Nodup := hnd
    rw [List.nodup_cons, List.nodup_cons] at q
    exact q.2.1
  have bo : b ∉ ownC cs := by
    have q : (b :: fl :: ownC cs).Nodup := hnd
    rw [List.nodup_cons] at q
    exact fun z => q.1 (List.mem_cons_of_mem _ z)
  cases ev with
  | op m =>
    obtain ⟨T, u, rfl, hT, hu⟩ := tp_ev1 (show Tp H v (.tuple [.str "open", .str (kindOf_ m)]) from tp)
    obtain rfl : u = .str (kindOf_ m) := by
      cases hu
      rfl
    have val : st.fs.length ≤ 900 := val
    walk_at "rd"
    refine r_ixT (SqT.of hT) at0 ?_
    walk_at "rd"
    refine r_itep rfl ?_
    walk_at "rd"
    refine r_fget hb nb.cl_Builder nb.na_Builder__frames lk_Builder__frames ?_
    refine ⟨tyL hli, ?_⟩
    walk_at "rd"
    refine r_ixT (SqT.of hT) rfl ?_
    walk_at "rd"
    refine d_frame fun a l H1 na nl la hF s1 => ?_
    have hli1 := s1 _ _ hli
    walk_at "rd"
    have hl0 : (cs.reverse.map fun c => V.ref c.a).length ≤ 900 := by
      rw [List.length_map, List.length_reverse]
      have q := congrArg List.length hfs
      rw [List.length_map] at q
      omega
    refine r_appK hli1 (small1000 (by omega)) fun H2 hL2 f2 => ?_
    have naf : a ≠ fl := fun e => by rw [e, hli] at na; cases na
    have nlf : l ≠ fl := fun e => by rw [e, hli] at nl; cases nl
    have tk : Tk H H2 := fun x ys hx => by
      have n : x ≠ fl := fun e => by rw [e, hli] at hx; cases hx
      rw [f2 x n]
      exact s1 _ _ hx
    obtain ⟨dxf, hFa, hFl⟩ := hF
    have lv := B.live
    have nao : a ∉ own b fl cs := fun z => by
      obtain ⟨u, q⟩ := lv a z
      rw [na] at q
      cases q
    have nlo : l ∉ own b fl cs := fun z => by
      obtain ⟨u, q⟩ := lv l z
      rw [nl] at q
      cases q
    refine h (⟨a, l, ⟨m, none, []⟩⟩ :: cs) H2 ⟨⟨dx, bv, by rw [f2 b bfl]; exact s1 _ _ hb, hbv.tk tk⟩, ?_, ?_, fun c hc => ?_, ?_⟩ (fun x hx => ?_) (fun x u n hx => ?_) tk
    · rw [hL2, rev_map_cons]
    · rw [List.map_cons, hfs]
      rfl
    · rcases List.mem_cons.mp hc with q | q
      · subst q
        refine ⟨.non, [], ⟨dxf, by rw [f2 a naf]; exact hFa, by rw [f2 l nlf]; exact hFl⟩, fun k e => (by cases e), fun _ => ⟨[], rfl, fun _ h => absurd h (by simp), rfl⟩, fun _ => .nil⟩
      · obtain ⟨m1, m2⟩ := ownC_mem q
        exact (hat c q).keep (fun u z => by rw [f2 _ (fun e => flo (e ▸ m1))]; exact s1 _ _ z) (fun u z => by rw [f2 _ (fun e => flo (e ▸ m2))]; exact s1 _ _ z) tk
    · show (b :: fl :: a :: l :: ownC cs).Nodup
      have q : (b :: fl :: ownC cs).Nodup := hnd
      simp only [own, List.mem_cons, not_or] at nao nlo
      simp only [List.nodup_cons, List.mem_cons, not_or] at q ⊢
      exact ⟨⟨bfl, Ne.symm nao.1, Ne.symm nlo.1, bo⟩, ⟨Ne.symm nao.2.1, Ne.symm nlo.2.1, flo⟩, ⟨Ne.symm la, nao.2.2⟩, nlo.2.2, q.2.2⟩
    · rcases mem_own.mp hx with q | q | q
      · exact .inl (mem_own.mpr (.inl q))
      · exact .inl (mem_own.mpr (.inr (.inl q)))
      · rcases mem_ownC.mp q with q | q | q
        · exact .inr (by rw [q]; exact na)
        · exact .inr (by rw [q]; exact nl)
        · exact .inl (mem_own.mpr (.inr (.inr q)))
    · have n1 : x ≠ fl := fun e => n (mem_own.mpr (.inr (.inl e)))
      rw [f2 x n1]
      exact s1 _ _ hx
  | ky k =>
    obtain ⟨T, u, rfl, hT, hu⟩ := tp_ev1 (show Tp H v (.tuple [.str "key", kd k]) from tp)
    obtain ⟨q, rfl, hq⟩ := tp_kdB hu
    obtain ⟨pf, r, hst⟩ := val
    rw [hst] at hfs
    obtain ⟨c, cr, rfl, rfl, rfl⟩ := cs_cons hfs
    rw [rev_map_cons] at hli
    walk_at "rd"
    refine r_ixT (SqT.of hT) at0 ?_
    walk_at "rd"
    refine r_iteN (by decide +kernel) ?_
    walk_at "rd"
    refine r_ixT (SqT.of hT) at0 ?_
    walk_at "rd"
    refine r_itep rfl ?_
    walk_at "rd"
    refine r_fget hb nb.cl_Builder nb.na_Builder__frames lk_Builder__frames ?_
    walk_at "rd"
    refine r_ixL (SqL.of hli) (atI_last _ _) ?_
    walk_at "rd"
    refine r_ixT (SqT.of hT) rfl ?_
    walk_at "rd"
    obtain ⟨key, vs, ⟨dxc, hca, hcl⟩, hk, hmp, hls⟩ := hat c (List.mem_cons_self ..)
    refine r_fsetK hca nb.cl_Frame nb.na_Frame_key (few_Frame) pt_Frame_key fun H1 hA1 f1 => ?_
    have tk : Tk H H1 := fun x ys hx => by
      have n : x ≠ c.a := fun e => by rw [e, hca] at hx; cases hx
      rw [f1 x n]
      exact hx
    have nd2 : c.a ≠ b ∧ c.a ≠ fl ∧ c.a ≠ c.l ∧ c.a ∉ ownC cr := by
      have q : (b :: fl :: c.a :: c.l :: ownC cr).Nodup := hnd
      simp only [List.nodup_cons, List.mem_cons, not_or] at q
      obtain ⟨⟨q1, q2, q3, q4⟩, ⟨q5, q6, q7⟩, ⟨q8, q9⟩, q10, q11⟩ := q
      exact ⟨Ne.symm q2, Ne.symm q5, q8, q9⟩
    obtain ⟨nab, naf, nal, nar⟩ := nd2
    have e : st.step (.ky k) = ⟨⟨c.f.m, some k, c.f.ins⟩ :: cr.map (·.f), st.val⟩ := by
      show (match st.fs with | [] => st | f :: r => ⟨⟨f.m, some k, f.ins⟩ :: r, st.val⟩) = _
      rw [hst]
    rw [e] at h
    refine h (⟨c.a, c.l, ⟨c.f.m, some k, c.f.ins⟩⟩ :: cr) H1 ⟨⟨dx, bv, by rw [f1 b (Ne.symm nab)]; exact hb, hbv.tk tk⟩, ?_, rfl, fun x hx => ?_, hnd⟩ (fun x hx => .inl hx) (fun x u n hx => ?_) tk
    · rw [rev_map_cons, f1 fl (Ne.symm naf)]
      exact hli
    · rcases List.mem_cons.mp hx with p | p
      · subst p
        refine ⟨.ref q, vs, ⟨dxc, hA1, by rw [f1 c.l (Ne.symm nal)]; exact hcl⟩, fun k' e => ?_, fun e => ?_, fun e => TpAll.tk tk _ _ (hls e)⟩
        · have e : some k = some k' := e
          cases e
          exact ⟨q, rfl, tk _ _ hq⟩
        · obtain ⟨es, e1, e2, e3⟩ := hmp e
          exact ⟨es, e1, fun y hy => (e2 y hy).tk tk, e3⟩
      · obtain ⟨m1, m2⟩ := ownC_mem p
        exact (hat x (List.mem_cons_of_mem _ p)).keep (fun u z => by rw [f1 _ (fun e => nar (e ▸ m1))]; exact z) (fun u z => by rw [f1 _ (fun e => nar (e ▸ m2))]; exact z) tk
    · have n1 : x ≠ c.a := fun e => n (mem_own.mpr (.inr (.inr (mem_ownC.mpr (.inl e)))))
      rw [f1 x n1]
      exact hx
  | lf k r =>
    obtain ⟨T, u, rfl, hT, hu⟩ := tp_ev1 (show Tp H v (.tuple [.str "leaf", .tuple (.str k :: r)]) from tp)
    walk_at "rd"
    refine r_ixT (SqT.of hT) at0 ?_
    walk_at "rd"
    refine r_iteN (by decide +kernel) ?_
    walk_at "rd"
    refine r_ixT (SqT.of hT) at0 ?_
    walk_at "rd"
    refine r_iteN (by decide +kernel) ?_
    walk_at "rd"
    refine r_ixT (SqT.of hT) at0 ?_
    walk_at "rd"
    refine r_itep rfl ?_
    walk_at "rd"
    refine r_mget hb no_Builder__put ?_
    walk_at "rd"
    refine r_ixT (SqT.of hT) rfl ?_
    refine ⟨_, _, rfl, b, fl, st, cs, .lf k r, rfl, B, hu, val, hval, fun cs' H' B' eo w tk => ?_⟩
    exact h cs' H' B' (fun x hx => .inl (by rw [← eo]; exact hx)) w tk
  | cl =>
    obtain ⟨T, ws, rfl, hT, hw⟩ := tp_tup (show Tp H v (.tuple [.str "close"]) from tp)
    have hT : H T = some (.tup [.str "close"]) := by
      cases hw with
      | cons x1 x2 =>
        cases x1
        cases x2
        exact hT
    obtain ⟨pf, r, hst, hnk, hil, rdy⟩ := val
    rw [hst] at hfs
    obtain ⟨c, cr, rfl, rfl, rfl⟩ := cs_cons hfs
    rw [rev_map_cons] at hli
    walk_at "rd"
    refine r_ixT (SqT.of hT) at0 ?_
    walk_at "rd"
    refine r_iteN (by decide +kernel) ?_
    walk_at "rd"
    refine r_ixT (SqT.of hT) at0 ?_
    walk_at "rd"
    refine r_iteN (by decide +kernel) ?_
    walk_at "rd"
    refine r_ixT (SqT.of hT) at0 ?_
    walk_at "rd"
    refine r_iteN (by decide +kernel) ?_
    walk_at "rd"
    refine r_fget hb nb.cl_Builder nb.na_Builder__frames lk_Builder__frames ?_
    refine ⟨tyL hli, ?_⟩
    refine ⟨fl, _, .ref c.a, rfl, rfl, hli, by simp, ?_⟩
    rw [List.dropLast_concat]
    have tk1 : Tk H (upd H fl (.lst (cr.reverse.map fun c => V.ref c.a))) := tk_put hli
    have f1 : ∀ x, x ≠ fl → upd H fl (.lst (cr.reverse.map fun c => V.ref c.a)) x = H x := fun x n => upd_ne n
    have hl1 : upd H fl (.lst (cr.reverse.map fun c => V.ref c.a)) fl = some (.lst (cr.reverse.map fun c => V.ref c.a)) := upd_same
    generalize upd H fl (.lst (cr.reverse.map fun c => V.ref c.a)) = H1 at tk1 f1 hl1 ⊢
    have flo' : fl ∉ ownC cr ∧ fl ≠ c.a ∧ fl ≠ c.l := by
      refine ⟨fun z => flo (mem_ownC.mpr (.inr (.inr z))), fun z => flo (mem_ownC.mpr (.inl z)), fun z => flo (mem_ownC.mpr (.inr (.inl z)))⟩
    obtain ⟨fl1, fl2, fl3⟩ := flo'
    have B1 : BAt K H1 b fl ⟨cr.map (·.f), st.val⟩ cr := by
      refine ⟨⟨dx, bv, by rw [f1 b bfl]; exact hb, hbv.tk tk1⟩, hl1, rfl, fun x hx => ?_, ?_⟩
      · obtain ⟨m1, m2⟩ := ownC_mem hx
        exact (hat x (List.mem_cons_of_mem _ hx)).keep (fun u z => by rw [f1 _ (fun e => fl1 (e ▸ m1))]; exact z) (fun u z => by rw [f1 _ (fun e => fl1 (e ▸ m2))]; exact z) tk1
      · have q : (b :: fl :: c.a :: c.l :: ownC cr).Nodup := hnd
        show (b :: fl :: ownC cr).Nodup
        simp only [List.nodup_cons, List.mem_cons, not_or] at q ⊢
        obtain ⟨⟨q1, q2, q3, q4⟩, ⟨q5, q6, q7⟩, ⟨q8, q9⟩, q10, q11⟩ := q
        exact ⟨⟨q1, q4⟩, q7, q11⟩
    have hFc := (hat c (List.mem_cons_self ..)).keep (fun u z => by rw [f1 _ (Ne.symm fl2)]; exact z) (fun u z => by rw [f1 _ (Ne.symm fl3)]; exact z) tk1
    obtain ⟨key, vs, hF, hk, hmp, hls⟩ := hFc
    obtain ⟨dxc, hca, hcl⟩ := id hF
    have e : st.step .cl = (Bs.mk (cr.map (·.f)) st.val).putv c.f.built := by
      show (match st.fs with | [] => st | f :: r => (Bs.mk r st.val).putv f.built) = _
      rw [hst]
    rw [e] at h
    walk_at "rd"
    obtain ⟨dx1, bv1, hb1, _⟩ := B1.bu
    refine r_mget hb1 no_Builder__put ?_
    walk_at "rd"
    refine r_mget hca no_Frame_built ?_
    have ow1 : Ow (own b fl (c :: cr)) H H1 := fun x u n hx => by
      rw [f1 x (fun z => n (mem_own.mpr (.inr (.inl z))))]
      exact hx
    refine ⟨_, rfl, c.a, c.l, kindOf_ c.f.m, key, vs, rfl, hF, fun hkm => ?_, fun hkm => ?_⟩
    · have hm := (kind_map c.f.m).mp hkm
      obtain ⟨es, e1, e2, e3⟩ := hmp hm
      have nk := hnk hm
      rw [e3, List.map_map] at nk
      refine ⟨es, e1, e2, nk, by rw [e3, List.length_map] at hil; omega, fun u zs H2 pz sz tu s2 => ?_⟩
      have ez : zs = sortM c.f.ins := by
        rw [e3]
        exact sortM_uniq pz sz
      have eb : c.f.built = .mp zs := by
        unfold Pf.built
        rw [if_pos hm, ez]
      walk_at "rd"
      refine ⟨_, _, rfl, b, fl, _, cr, .mp zs, rfl, B1.same s2, tu, rdy, hval, fun cs' H3 B3 eo w3 tk3 => ?_⟩
      rw [eb] at h
      walk_at "rd"
      refine h cs' H3 B3 (fun x hx => .inl (sub_own x (by rw [← eo]; exact hx))) ?_ ((tk1.trans (Same.tk s2)).trans tk3)
      exact (ow1.trans (Ow.of s2)).trans fun x u n hx => w3 x u (fun z => n (sub_own x z)) hx
    · have hm : c.f.m = false := by
        cases hm : c.f.m with
        | true => exact absurd ((kind_map c.f.m).mpr hm) hkm
        | false => rfl
      refine ⟨c.f.ins.map (·.2), hls hm, fun u H2 tu s2 => ?_⟩
      have eb : c.f.built = .ls (c.f.ins.map (·.2)) := by
        unfold Pf.built
        rw [if_neg (by rw [hm]; decide)]
      walk_at "rd"
      refine ⟨_, _, rfl, b, fl, _, cr, .ls (c.f.ins.map (·.2)), rfl, B1.same s2, tu, rdy, hval, fun cs' H3 B3 eo w3 tk3 => ?_⟩
      rw [eb] at h
      walk_at "rd"
      refine h cs' H3 B3 (fun x hx => .inl (sub_own x (by rw [← eo]; exact hx))) ?_ ((tk1.trans (Same.tk s2)).trans tk3)
      exact (ow1.trans (Ow.of s2)).trans fun x u n hx => w3 x u (fun z => n (sub_own x z)) hx
end

/-! ### a value's events build it -/
def Bs.okRun : Bs → List Ev → Prop
  | _, [] => True
  | st, e :: r => st.valid e ∧ st.val = none ∧ (st.step e).okRun r
def Bs.run (st : Bs) (es : List Ev) : Bs := es.foldl Bs.step st
def lastK (k : Option (List Int)) (es : List (List Int × Vl)) : Option (List Int) := es.foldl (fun _ e => some e.1) k
mutual
theorem evs_run : ∀ (n : Nat) (t : Vl), t.ok n → ∀ (st : Bs) (rest : List Ev), st.fs.length + n ≤ 900 → st.ready → st.val = none → (st.putv t).okRun rest → st.okRun (t.evs ++ rest) ∧ st.run (t.evs ++ rest) = (st.putv t).run rest
  | n, .lf k r, h, st, rest, hd, rdy, hv, hr => ⟨⟨rdy, hv, hr⟩, rfl⟩
  | 0, .ls xs, h, _, _, _, _, _, _ => h.elim
  | n + 1, .ls xs, h, st, rest, hd, rdy, hv, hr => by
    have e : (Vl.ls xs).evs ++ rest = .op false :: (evsL xs ++ (.cl :: rest)) := by
      show (Ev.op false :: (evsL xs ++ [Ev.cl])) ++ rest = _
      rw [List.cons_append, List.append_assoc]
      rfl
    rw [e]
    have hxl : xs.length ≤ 49 := h.1
    have cl2 : (Bs.mk (⟨false, none, [] ++ xs.map fun x => (([] : List Int), x)⟩ :: st.fs) st.val).okRun (.cl :: rest) ∧ (Bs.mk (⟨false, none, [] ++ xs.map fun x => (([] : List Int), x)⟩ :: st.fs) st.val).run (.cl :: rest) = (st.putv (.ls xs)).run rest := by
      have e2 : (Bs.mk (⟨false, none, [] ++ xs.map fun x => (([] : List Int), x)⟩ :: st.fs) st.val).step .cl = st.putv (.ls xs) := by
        show (Bs.mk st.fs st.val).putv (.ls ((([] : List (List Int × Vl)) ++ xs.map fun x => (([] : List Int), x)).map fun y : List Int × Vl => y.2)) = _
        rw [List.nil_append, List.map_map]
        have e3 : xs.map ((fun x : List Int × Vl => x.2) ∘ fun x : Vl => (([] : List Int), x)) = xs := by
          rw [show ((fun x : List Int × Vl => x.2) ∘ fun x : Vl => (([] : List Int), x)) = id from rfl, List.map_id]
        rw [e3]
      refine ⟨⟨⟨_, _, rfl, fun q => (by cases q), ?_, rdy⟩, hv, by rw [e2]; exact hr⟩, ?_⟩
      · show ([] ++ xs.map fun x => (([] : List Int), x)).length ≤ 900
        rw [List.nil_append, List.length_map]
        omega
      · show ((Bs.mk (⟨false, none, [] ++ xs.map fun x => (([] : List Int), x)⟩ :: st.fs) st.val).step .cl).run rest = _
        rw [e2]
    obtain ⟨q1, q2⟩ := evsL_run n xs h.2 ⟨false, none, []⟩ st.fs st.val (.cl :: rest) rfl (by omega) (by show 0 + _ ≤ 900; omega) hv cl2.1
    refine ⟨⟨by show st.fs.length ≤ 900; omega, hv, q1⟩, ?_⟩
    show (Bs.mk (⟨false, none, []⟩ :: st.fs) st.val).run _ = _
    rw [q2, cl2.2]
  | 0, .mp es, h, _, _, _, _, _, _ => h.elim
  | n + 1, .mp es, h, st, rest, hd, rdy, hv, hr => by
    have e : (Vl.mp es).evs ++ rest = .op true :: (evsM es ++ (.cl :: rest)) := by
      show (Ev.op true :: (evsM es ++ [Ev.cl])) ++ rest = _
      rw [List.cons_append, List.append_assoc]
      rfl
    rw [e]
    have hxl : es.length ≤ 49 := h.1
    have cl2 : (Bs.mk (⟨true, lastK none es, [] ++ es⟩ :: st.fs) st.val).okRun (.cl :: rest) ∧ (Bs.mk (⟨true, lastK none es, [] ++ es⟩ :: st.fs) st.val).run (.cl :: rest) = (st.putv (.mp es)).run rest := by
      have e2 : (Bs.mk (⟨true, lastK none es, [] ++ es⟩ :: st.fs) st.val).step .cl = st.putv (.mp es) := by
        show (Bs.mk st.fs st.val).putv (.mp (sortM ([] ++ es))) = _
        rw [List.nil_append, sortM_id h.2.1]
      refine ⟨⟨⟨_, _, rfl, fun _ => strict_nodup h.2.1, ?_, rdy⟩, hv, by rw [e2]; exact hr⟩, ?_⟩
      · show ([] ++ es).length ≤ 900
        rw [List.nil_append]
        omega
      · show ((Bs.mk (⟨true, lastK none es, [] ++ es⟩ :: st.fs) st.val).step .cl).run rest = _
        rw [e2]
    obtain ⟨q1, q2⟩ := evsM_run n es h.2.2.2 none [] st.fs st.val (.cl :: rest) (by omega) (by show 0 + _ ≤ 900; omega) hv cl2.1
    refine ⟨⟨by show st.fs.length ≤ 900; omega, hv, q1⟩, ?_⟩
    show (Bs.mk (⟨true, none, []⟩ :: st.fs) st.val).run _ = _
    rw [q2, cl2.2]
theorem evsL_run : ∀ (n : Nat) (xs : List Vl), vokL n xs → ∀ (f : Pf) (fs : List Pf) (val : Option Vl) (rest : List Ev), f.m = false → fs.length + 1 + n ≤ 900 → f.ins.length + xs.length ≤ 900 → val = none →
    (Bs.mk (⟨f.m, f.k, f.ins ++ xs.map fun x => (([] : List Int), x)⟩ :: fs) val).okRun rest → (Bs.mk (f :: fs) val).okRun (evsL xs ++ rest) ∧ (Bs.mk (f :: fs) val).run (evsL xs ++ rest) = (Bs.mk (⟨f.m, f.k, f.ins ++ xs.map fun x => (([] : List Int), x)⟩ :: fs) val).run rest
  | n, [], _, f, fs, val, rest, hm, hd, hl, hv, hr => by
    have e : f.ins ++ ([] : List Vl).map (fun x => (([] : List Int), x)) = f.ins := List.append_nil _
    rw [e] at hr ⊢
    exact ⟨hr, rfl⟩
  | n, x :: xs, h, f, fs, val, rest, hm, hd, hl, hv, hr => by
    have hl : f.ins.length + (xs.length + 1) ≤ 900 := hl
    have ep : (Bs.mk (f :: fs) val).putv x = Bs.mk (⟨f.m, f.k, f.ins ++ [(([] : List Int), x)]⟩ :: fs) val := by
      show Bs.mk (⟨f.m, f.k, f.ins ++ [(if f.m then f.k.getD [] else [], x)]⟩ :: fs) val = _
      rw [hm]
      rfl
    have e1 : f.ins ++ (x :: xs).map (fun x => (([] : List Int), x)) = (f.ins ++ [(([] : List Int), x)]) ++ xs.map fun x => (([] : List Int), x) := by
      rw [List.map_cons, List.append_assoc]
      rfl
    rw [e1] at hr ⊢
    obtain ⟨q1, q2⟩ := evsL_run n xs h.2 ⟨f.m, f.k, f.ins ++ [(([] : List Int), x)]⟩ fs val rest hm hd (by show (f.ins ++ [_]).length + _ ≤ 900; rw [List.length_append]; show _ + 1 + _ ≤ 900; omega) hv hr
    have e2 : evsL (x :: xs) ++ rest = x.evs ++ (evsL xs ++ rest) := by
      show (x.evs ++ evsL xs) ++ rest = _
      rw [List.append_assoc]
    rw [e2]
    obtain ⟨p1, p2⟩ := evs_run n x h.1 (Bs.mk (f :: fs) val) (evsL xs ++ rest) hd (fun f' r e => by
      cases e
      exact ⟨fun z => absurd (hm.symm.trans z) (by decide), by omega⟩) hv (by rw [ep]; exact q1)
    refine ⟨p1, ?_⟩
    rw [p2, ep, q2]
theorem evsM_run : ∀ (n : Nat) (es : List (List Int × Vl)), vokM n es → ∀ (k : Option (List Int)) (ins : List (List Int × Vl)) (fs : List Pf) (val : Option Vl) (rest : List Ev), fs.length + 1 + n ≤ 900 → ins.length + es.length ≤ 900 → val = none →
    (Bs.mk (⟨true, lastK k es, ins ++ es⟩ :: fs) val).okRun rest → (Bs.mk (⟨true, k, ins⟩ :: fs) val).okRun (evsM es ++ rest) ∧ (Bs.mk (⟨true, k, ins⟩ :: fs) val).run (evsM es ++ rest) = (Bs.mk (⟨true, lastK k es, ins ++ es⟩ :: fs) val).run rest
  | n, [], _, k, ins, fs, val, rest, hd, hl, hv, hr => by
    rw [List.append_nil] at hr ⊢
    exact ⟨hr, rfl⟩
  | n, (k0, x) :: es, h, k, ins, fs, val, rest, hd, hl, hv, hr => by
    have hl : ins.length + (es.length + 1) ≤ 900 := hl
    have ep : (Bs.mk (⟨true, some k0, ins⟩ :: fs) val).putv x = Bs.mk (⟨true, some k0, ins ++ [(k0, x)]⟩ :: fs) val := rfl
    have e1 : ins ++ (k0, x) :: es = (ins ++ [(k0, x)]) ++ es := by
      rw [List.append_assoc]
      rfl
    have e3 : lastK k ((k0, x) :: es) = lastK (some k0) es := rfl
    rw [e1, e3] at hr ⊢
    obtain ⟨q1, q2⟩ := evsM_run n es h.2 (some k0) (ins ++ [(k0, x)]) fs val rest hd (by rw [List.length_append]; show _ + 1 + _ ≤ 900; omega) hv hr
    have e2 : evsM ((k0, x) :: es) ++ rest = .ky k0 :: (x.evs ++ (evsM es ++ rest)) := by
      show (Ev.ky k0 :: (x.evs ++ evsM es)) ++ rest = _
      rw [List.cons_append, List.append_assoc]
    rw [e2]
    obtain ⟨p1, p2⟩ := evs_run n x h.1 (Bs.mk (⟨true, some k0, ins⟩ :: fs) val) (evsM es ++ rest) hd (fun f' r e => by
      cases e
      exact ⟨fun _ => ⟨k0, rfl⟩, by show ins.length ≤ 900; omega⟩) hv (by rw [ep]; exact q1)
    refine ⟨⟨⟨_, _, rfl⟩, hv, p1⟩, ?_⟩
    show (Bs.mk (⟨true, some k0, ins⟩ :: fs) val).run _ = _
    rw [p2, ep, q2]
end
theorem okRun_at : ∀ (es : List Ev) (st : Bs) (i : Nat) (e : Ev), st.okRun es → es[i]? = some e → (st.run (es.take i)).valid e ∧ (st.run (es.take i)).val = none
  | [], _, _, _, _, h => by simp at h
  | x :: es, st, 0, e, h, he => by
    cases (show some x = some e from he)
    exact ⟨h.1, h.2.1⟩
  | x :: es, st, i + 1, e, h, he => okRun_at es (st.step x) i e h.2.2 (by simpa using he)
theorem run_take {es : List Ev} {st : Bs} {i : Nat} {e : Ev} (h : es[i]? = some e) : st.run (es.take (i + 1)) = (st.run (es.take i)).step e := by
  unfold Bs.run
  rw [take_one h, List.foldl_append]
  rfl
theorem run_value {n : Nat} {t : Vl} (h : t.ok n) (hn : n ≤ 900) : (Bs.mk [] none).okRun t.evs ∧ (Bs.mk [] none).run t.evs = ⟨[], some t⟩ := by
  have q := evs_run n t h ⟨[], none⟩ [] (by show 0 + n ≤ 900; omega) (fun f r e => by cases e) rfl trivial
  rw [List.append_nil] at q
  exact q
theorem lay_op (m : Bool) : (Ev.op m).dat.canLay0 = true ∧ (Ev.op m).dat.depth ≤ 4 := by
  cases m <;> exact ⟨by decide +kernel, by decide +kernel⟩
theorem lay_cl : Ev.cl.dat.canLay0 = true ∧ Ev.cl.dat.depth ≤ 4 := ⟨by decide +kernel, by decide +kernel⟩
theorem lay_ky (k : List Int) : (Ev.ky k).dat.canLay0 = true ∧ (Ev.ky k).dat.depth ≤ 4 := by
  refine ⟨?_, ?_⟩
  · show (PyData.canLay0 (.str "key") && (PyData.canLay0 (kd k) && true)) = true
    rw [show PyData.canLay0 (.str "key") = true by decide +kernel, show PyData.canLay0 (kd k) = true from lay_kd k]
    rfl
  · have q := depth_kd1 k
    show max 0 (max (kd k).depth 0) + 1 ≤ 4
    omega
theorem lay_lfE {k : Str} {r : List PyData} (h : Lf k r) : (Ev.lf k r).dat.canLay0 = true ∧ (Ev.lf k r).dat.depth ≤ 4 := by
  obtain ⟨h1, h2, h3⟩ := lay_lf h
  refine ⟨?_, ?_⟩
  · show (PyData.canLay0 (.str "leaf") && ((PyData.canLay0 (.str k) && PyData.canLayAll0 r) && true)) = true
    rw [show PyData.canLay0 (.str "leaf") = true by decide +kernel, h1, h2]
    rfl
  · show max 0 (max (max 0 (PyData.depthAll r) + 1) 0) + 1 ≤ 4
    omega
def EvOk (e : Ev) : Prop := e.dat.canLay0 = true ∧ e.dat.depth ≤ 4
mutual
theorem evs_ok : ∀ (n : Nat) (t : Vl), t.ok n → ∀ e ∈ t.evs, EvOk e
  | n, .lf k r, h, e, he => by
    have e1 : e = .lf k r := by simpa using (show e ∈ [Ev.lf k r] from he)
    rw [e1]
    exact lay_lfE (show Lf k r by cases n <;> exact h)
  | 0, .ls xs, h, _, _ => h.elim
  | n + 1, .ls xs, h, e, he => by
    rcases List.mem_cons.mp (show e ∈ Ev.op false :: (evsL xs ++ [Ev.cl]) from he) with q | q
    · rw [q]
      exact lay_op false
    · rcases List.mem_append.mp q with q | q
      · exact evsL_ok n xs h.2 e q
      · have q : e = .cl := by simpa using q
        rw [q]
        exact lay_cl
  | 0, .mp es, h, _, _ => h.elim
  | n + 1, .mp es, h, e, he => by
    rcases List.mem_cons.mp (show e ∈ Ev.op true :: (evsM es ++ [Ev.cl]) from he) with q | q
    · rw [q]
      exact lay_op true
    · rcases List.mem_append.mp q with q | q
      · exact evsM_ok n es h.2.2.2 e q
      · have q : e = .cl := by simpa using q
        rw [q]
        exact lay_cl
theorem evsL_ok : ∀ (n : Nat) (xs : List Vl), vokL n xs → ∀ e ∈ evsL xs, EvOk e
  | _, [], _, e, he => absurd he (by simp [evsL])
  | n, x :: xs, h, e, he => by
    rcases List.mem_append.mp (show e ∈ x.evs ++ evsL xs from he) with q | q
    · exact evs_ok n x h.1 e q
    · exact evsL_ok n xs h.2 e q
theorem evsM_ok : ∀ (n : Nat) (xs : List (List Int × Vl)), vokM n xs → ∀ e ∈ evsM xs, EvOk e
  | _, [], _, e, he => absurd he (by simp [evsM])
  | n, (k, x) :: xs, h, e, he => by
    rcases List.mem_cons.mp (show e ∈ Ev.ky k :: (x.evs ++ evsM xs) from he) with q | q
    · rw [q]
      exact lay_ky k
    · rcases List.mem_append.mp q with q | q
      · exact evs_ok n x h.1 e q
      · exact evsM_ok n xs h.2 e q
end
theorem evD_lay : ∀ {es : List Ev}, (∀ e ∈ es, EvOk e) → PyData.canLayAll0 (evD es) = true ∧ PyData.depthAll (evD es) ≤ 4
  | [], _ => ⟨rfl, Nat.zero_le _⟩
  | e :: es, h => by
    obtain ⟨h1, h2⟩ := evD_lay (es := es) fun x hx => h x (List.mem_cons_of_mem _ hx)
    obtain ⟨g1, g2⟩ := h e (List.mem_cons_self ..)
    refine ⟨?_, ?_⟩
    · show (e.dat.canLay0 && PyData.canLayAll0 (evD es)) = true
      rw [g1, h1]
      rfl
    · show max e.dat.depth (PyData.depthAll (evD es)) ≤ 4
      omega
theorem d_builder {K : Frg} {H : Hp} {R : Addr → Hp → Prop} {E : XK} (h : ∀ b l H', H b = none → H l = none → BAt K H' b l ⟨[], none⟩ [] → Same H H' → R b H') : ∀ x dx, H x = none → H dx = none → dx ≠ x → sp_Builder___init__ K (.ref x :: ([] ++ [])) (upd (upd H dx (.own x)) x (.ins (C_Builder K) dx [])) (fun v H2 => v = .non ∧ R x H2) E := by
  intro a dx ha hd hne
  refine ⟨_, rfl, a, dx, rfl, upd_same, fun l H' hl hla hU g => ⟨rfl, ?_⟩⟩
  have hl0 : H l = none := by
    rw [upd_ne hla] at hl
    by_cases e : l = dx
    · rw [e] at hl ⊢
      exact hd
    · rw [upd_ne e] at hl
      exact hl
  refine h a l H' ha hl0 hU fun b u z => ?_
  have h1 : b ≠ a := fun e => by
    rw [e, ha] at z
    cases z
  have h2 : b ≠ dx := fun e => by
    rw [e, hd] at z
    cases z
  exact g b u h1 (by rw [upd_ne h1, upd_ne h2]; exact z)

/-! ### the program's UTF-8 -/
def enc1 (c : Int) : List Int :=
  if c < 128 then [c] else if c < 2048 then [192 + c / 64, 128 + c % 64] else if c < 65536 then [224 + c / 4096, 128 + c / 64 % 64, 128 + c % 64]
  else [240 + c / 262144, 128 + c / 4096 % 64, 128 + c / 64 % 64, 128 + c % 64]
def encs (cs : List Int) : List Int := cs.flatMap enc1
structure U8 where
  ps : List Int
  ms : Int
  wo : Int
  le : Int
  mo : Int
def u80 : U8 := ⟨[], 0, 0, 128, 191⟩
def U8At (K : Frg) (H : Hp) (a l : Addr) (s : U8) : Prop := ∃ dx, H a = some (.ins (C_Utf8 K) dx (fs_Utf8 (.ref l) (.int s.ms) (.int s.wo) (.int s.le) (.int s.mo))) ∧ H l = some (.lst (s.ps.map V.int))
def u8go (s : U8) (b : Int) : Bool × U8 :=
  if s.le ≤ b ∧ b ≤ s.mo then (true, ⟨if s.ms - 1 = 0 then s.ps ++ [s.wo * 64 + b - 128] else s.ps, s.ms - 1, s.wo * 64 + b - 128, 128, 191⟩) else (false, s)
structure U8R where
  f : Int
  l : Int
  m : Int
  le : Int
  mo : Int
def rows8 : List U8R := [⟨194, 223, 1, 128, 191⟩, ⟨224, 224, 2, 160, 191⟩, ⟨225, 236, 2, 128, 191⟩, ⟨237, 237, 2, 128, 159⟩, ⟨238, 239, 2, 128, 191⟩, ⟨240, 240, 3, 144, 191⟩, ⟨241, 243, 3, 128, 191⟩, ⟨244, 244, 3, 128, 143⟩]
def U8R.dat (r : U8R) : PyData := .tuple [.int r.f, .int r.l, .int r.m, .int r.le, .int r.mo]
def U8R.is (r : U8R) (b : Int) : Bool := decide (r.f ≤ b ∧ b ≤ r.l)
def mark8 (m : Int) : Int := if m = 1 then 192 else if m = 2 then 224 else 240
def u8start (s : U8) (b : Int) : Bool × U8 :=
  match rows8.find? (·.is b) with
  | some r => (true, ⟨s.ps, r.m, b - mark8 r.m, r.le, r.mo⟩)
  | none => (false, s)
def u8take (s : U8) (b : Int) : Bool × U8 := if s.ms > 0 then u8go s b else if b < 128 then (true, { s with ps := s.ps ++ [b] }) else u8start s b
/-- a list or tuple of numbers at a -/
def RowAt (H : Hp) (a : Addr) (zs : List Int) : Prop := H a = some (.lst (zs.map V.int)) ∨ H a = some (.tup (zs.map V.int))
def Point (c : Int) : Prop := 0 ≤ c ∧ c ≤ 1114111 ∧ (c < 55296 ∨ 57344 ≤ c)
def sp_Utf8___init__ (K : Frg) : Sp := sp1 fun p H Q _ => ∃ a dx, p = .ref a ∧ H a = some (.ins (C_Utf8 K) dx []) ∧ ∀ l H', H l = none → l ≠ a → U8At K H' a l u80 → (∀ b u, b ≠ a → H b = some u → H' b = some u) → Q .non H'
def sp_Utf8_is_open (K : Frg) : Sp := sp1 fun p H Q _ => ∃ a l s, p = .ref a ∧ U8At K H a l s ∧ Q (.bl (decide (s.ms > 0))) H
def SpU (K : Frg) (f : U8 → Int → Bool × U8) : Sp := sp2 fun p o H Q _ => ∃ a l s b, p = .ref a ∧ o = .int b ∧ U8At K H a l s ∧ s.ps.length < sizeLine ∧ ∀ H', U8At K H' a l (f s b).2 → But a l H H' → Q (.bl (f s b).1) H'
def sp_Utf8__go_on (K : Frg) : Sp := SpU K u8go
def sp_Utf8__begin (K : Frg) : Sp := SpU K u8start
def sp_Utf8_take (K : Frg) : Sp := SpU K u8take





theorem u8_ne {K : Frg} {H : Hp} {a l : Addr} {s : U8} (h : U8At K H a l s) : l ≠ a := by
  obtain ⟨dx, h1, h2⟩ := h
  rintro rfl
  rw [h1] at h2
  cases h2
section
variable {P : Program} {w : World} {K : PySem.W.Frag} {mg : Str → Option Value} {base : Heap} {f : Addr} {fd : FuncData}
theorem ok_Utf8__go_on (F : FunD K "_go_on" "Utf8._go_on" (defArgs s_Utf8__go_on) (defBody s_Utf8__go_on) (defScope s_Utf8__go_on) [] [] (meAd "Utf8" "_go_on" K) fd) (nb : Nm K mg) : Met P w K mg base 1 (C_Utf8 K) "_go_on" (sp_Utf8__go_on K) [] := by
  refine metD F nb.cl_Utf8 nb.me_Utf8__go_on sc_Utf8__go_on (fun _ _ _ _ _ _ us hl => match us, hl with | [_, _], _ => rfl) len2 (fun cdv A outer s H vs Q E hr h => ⟨_, (pss_cons (ps_if (pt_not (pt_chain op_le op_le (pe_fld (pv 0) rfl) (pv 1) (pe_fld (pv 0) rfl)))
    (pss_one (ps_ret pe_bl))
    pss_nil)
    (pss_cons (ps_fld (pv 0) (pe_op op_sub (pe_op op_add (pe_op op_mul (pe_fld (pv 0) rfl) pe_int) (pv 1)) pe_int) rfl)
    (pss_cons (ps_fld (pv 0) pe_int rfl)
    (pss_cons (ps_fld (pv 0) pe_int rfl)
    (pss_cons (ps_fld (pv 0) (pe_op op_sub (pe_fld (pv 0) rfl) pe_int) rfl)
    (pss_cut (ps_if (pt_cmpR op_eq (pe_fld (pv 0) rfl) pe_int (nomark _))
    (pss_one (ps_expr (pe_bm PySem.F.plainAttrs_list PySem.F.slot_list_append PySem.F.type_list_append mt_append (pe_fld (pv 0) rfl) (pa_cons (pe_fld (pv 0) rfl) pa_nil))))
    pss_nil)
    (pss_one (ps_ret pe_bl)))))))), ?_⟩)
  obtain ⟨_, _, rfl, a, l, s, b, rfl, rfl, hU, hl, h⟩ := h
  have hne := u8_ne hU
  obtain ⟨dx, hA, hL⟩ := id hU
  walk_at "rd"
  refine r_fget hA nb.cl_Utf8 nb.na_Utf8__least lk_Utf8__least ?_
  walk_at "rd"
  have no : (¬ (s.le ≤ b ∧ b ≤ s.mo)) → Q (.bl false) H := fun c => by
    have e : u8go s b = (false, s) := by
      unfold u8go
      rw [if_neg c]
    rw [e] at h
    exact h H hU (fun _ _ _ _ z => z)
  refine r_ite (fun c1 => ?_) (fun c1 => ?_)
  · walk_at "rd"
    refine r_fget hA nb.cl_Utf8 nb.na_Utf8__most lk_Utf8__most ?_
    walk_at "rd"
    refine r_iten (fun c2 => ?_) (fun c2 => ?_)
    · walk_at "rd"
      exact no fun z => c2 z.2
    have e : u8go s b = (true, ⟨if s.ms - 1 = 0 then s.ps ++ [s.wo * 64 + b - 128] else s.ps, s.ms - 1, s.wo * 64 + b - 128, 128, 191⟩) := by
      unfold u8go
      rw [if_pos ⟨c1, c2⟩]
    rw [e] at h
    walk_at "rd"
    refine r_fget hA nb.cl_Utf8 nb.na_Utf8__worth lk_Utf8__worth ?_
    walk_at "rd"
    walk_at "rd"
    refine r_fsetK hA nb.cl_Utf8 nb.na_Utf8__worth (few_Utf8) pt_Utf8__worth fun H1 hA1 f1 => ?_
    walk_at "rd"
    refine r_fsetK hA1 nb.cl_Utf8 nb.na_Utf8__least (few_Utf8) pt_Utf8__least fun H2 hA2 f2 => ?_
    walk_at "rd"
    refine r_fsetK hA2 nb.cl_Utf8 nb.na_Utf8__most (few_Utf8) pt_Utf8__most fun H3 hA3 f3 => ?_
    walk_at "rd"
    refine r_fget hA3 nb.cl_Utf8 nb.na_Utf8__missing lk_Utf8__missing ?_
    walk_at "rd"
    refine r_fsetK hA3 nb.cl_Utf8 nb.na_Utf8__missing (few_Utf8) pt_Utf8__missing fun H4 hA4 f4 => ?_
    have hL4 : H4 l = some (.lst (s.ps.map V.int)) := by rw [f4 l hne, f3 l hne, f2 l hne, f1 l hne]; exact hL
    have b4 : But a l H H4 := fun p u p1 p2 z => by rw [f4 p p1, f3 p p1, f2 p p1, f1 p p1]; exact z
    refine r_cut (fun _ H' => U8At K H' a l ⟨if s.ms - 1 = 0 then s.ps ++ [s.wo * 64 + b - 128] else s.ps, s.ms - 1, s.wo * 64 + b - 128, 128, 191⟩ ∧ But a l H H') ?_ ?_
    · walk_at "rd"
      refine r_fget hA4 nb.cl_Utf8 nb.na_Utf8__missing lk_Utf8__missing ?_
      walk_at "rd"
      refine r_ite (fun c3 => ?_) (fun c3 => ?_)
      · walk_at "rd"
        refine r_fget hA4 nb.cl_Utf8 nb.na_Utf8_points lk_Utf8_points ?_
        refine ⟨tyL hL4, ?_⟩
        walk_at "rd"
        refine r_fget hA4 nb.cl_Utf8 nb.na_Utf8__worth lk_Utf8__worth ?_
        walk_at "rd"
        refine r_appK hL4 (by simpa using hl) fun H5 hL5 f5 => ?_
        rw [if_pos c3]
        refine ⟨⟨dx, ?_, ?_⟩, fun p u p1 p2 z => ?_⟩
        · rw [f5 a (Ne.symm hne)]
          exact hA4
        · rw [hL5, map_snoc]
        · rw [f5 p p2]
          exact b4 p u p1 p2 z
      · walk_at "rd"
        rw [if_neg c3]
        exact ⟨⟨dx, hA4, hL4⟩, b4⟩
    rintro σ' H' ⟨g1, g2⟩
    walk_at "rd"
    exact h _ g1 g2
  · walk_at "rd"
    exact no fun z => c1 z.1
theorem ok_Utf8_is_open (F : FunD K "is_open" "Utf8.is_open" (defArgs s_Utf8_is_open) (defBody s_Utf8_is_open) (defScope s_Utf8_is_open) [] [] (prAd "Utf8" "is_open" K) fd) (nb : Nm K mg) : Prp P w K mg base 1 (C_Utf8 K) "is_open" (sp_Utf8_is_open K) := by
  refine prpD F nb.cl_Utf8 nb.pr_Utf8_is_open sc_Utf8_is_open (fun _ _ _ _ _ _ us hl => match us, hl with | [_], _ => rfl) len1 (fun cdv A outer s H vs Q E hr h => ⟨_, (pss_one (ps_ret (pe_cmpR op_gt (pe_fld (pv 0) rfl) pe_int (nomark _)))), ?_⟩)
  obtain ⟨_, rfl, a, l, s, rfl, ⟨dx, hA, hL⟩, h⟩ := h
  walk_at "rd"
  refine r_fget hA nb.cl_Utf8 nb.na_Utf8__missing lk_Utf8__missing ?_
  walk_at "rd"
  exact h
theorem ok_Utf8___init__ (F : FunD K "__init__" "Utf8.__init__" (defArgs s_Utf8___init__) (defBody s_Utf8___init__) (defScope s_Utf8___init__) [] [] (meAd "Utf8" "__init__" K) fd) (nb : Nm K mg) : Mak P w K mg base 1 "Utf8" (C_Utf8 K) (sp_Utf8___init__ K) [] := by
  refine makD F nb.mk_Utf8 nb.g_Utf8 sc_Utf8___init__ (fun _ _ _ _ _ _ us hl => match us, hl with | [_], _ => rfl) len1 (fun cdv A outer s H vs Q E hr h => ⟨_, (pss_cons (ps_fld (pv 0) (pe_lst pa_nil) rfl)
    (pss_cons (ps_fld (pv 0) pe_int rfl)
    (pss_cons (ps_fld (pv 0) pe_int rfl)
    (pss_cons (ps_fld (pv 0) pe_int rfl)
    (pss_one (ps_fld (pv 0) pe_int rfl)))))), ?_⟩)
  obtain ⟨_, rfl, a, dx, rfl, hA, h⟩ := h
  walk_at "rd"
  refine ⟨by show 0 ≤ sizeLine; decide, fun l hl => ?_⟩
  have hne : l ≠ a := fun z => by rw [z, hA] at hl; cases hl
  have hA0 : upd H l (.lst []) a = some (.ins (C_Utf8 K) dx []) := (upd_ne (Ne.symm hne)).trans hA
  have hL0 : upd H l (.lst []) l = some (.lst []) := upd_same
  have f0 : ∀ b u, b ≠ a → H b = some u → upd H l (.lst []) b = some u := fun b u h1 h2 => same_upd hl _ b u h2
  generalize upd H l (.lst []) = H0 at hA0 hL0 f0 ⊢
  walk_at "rd"
  refine r_fsetK hA0 nb.cl_Utf8 nb.na_Utf8_points (by decide) (in_Utf8_points) fun H1 hA1 f1 => ?_
  walk_at "rd"
  refine r_fsetK hA1 nb.cl_Utf8 nb.na_Utf8__missing (by simp) (in_Utf8__missing) fun H2 hA2 f2 => ?_
  walk_at "rd"
  refine r_fsetK hA2 nb.cl_Utf8 nb.na_Utf8__worth (by simp) (in_Utf8__worth) fun H3 hA3 f3 => ?_
  walk_at "rd"
  refine r_fsetK hA3 nb.cl_Utf8 nb.na_Utf8__least (by simp) (in_Utf8__least) fun H4 hA4 f4 => ?_
  walk_at "rd"
  refine r_fsetK hA4 nb.cl_Utf8 nb.na_Utf8__most (by simp) (in_Utf8__most) fun H5 hA5 f5 => ?_
  refine h l H5 hl hne ⟨dx, hA5, ?_⟩ fun p u p1 z => ?_
  · rw [f5 l hne, f4 l hne, f3 l hne, f2 l hne, f1 l hne]
    exact hL0
  · rw [f5 p p1, f4 p p1, f3 p p1, f2 p p1, f1 p p1]
    exact f0 p u p1 z
theorem ok_Utf8_take (F : FunD K "take" "Utf8.take" (defArgs s_Utf8_take) (defBody s_Utf8_take) (defScope s_Utf8_take) [] [] (meAd "Utf8" "take" K) fd) (nb : Nm K mg) (m_Utf8__begin : Met P w K mg base 1 (C_Utf8 K) "_begin" (sp_Utf8__begin K) []) (m_Utf8__go_on : Met P w K mg base 1 (C_Utf8 K) "_go_on" (sp_Utf8__go_on K) []) : Met P w K mg base 2 (C_Utf8 K) "take" (sp_Utf8_take K) [] := by
  refine metD F nb.cl_Utf8 nb.me_Utf8_take sc_Utf8_take (fun _ _ _ _ _ _ us hl => match us, hl with | [_, _], _ => rfl) len2 (fun cdv A outer s H vs Q E hr h => ⟨_, (pss_cons (ps_if (pt_cmpR op_gt (pe_fld (pv 0) rfl) pe_int (nomark _))
    (pss_one (ps_ret (pe_mt m_Utf8__go_on hr (by decide) (pv 0) (pa_cons (pv 1) pa_nil))))
    pss_nil)
    (pss_cons (ps_if (pt_cmpR op_lt (pv 1) pe_int (nomark _))
    (pss_cons (ps_expr (pe_bm PySem.F.plainAttrs_list PySem.F.slot_list_append PySem.F.type_list_append mt_append (pe_fld (pv 0) rfl) (pa_cons (pv 1) pa_nil)))
    (pss_one (ps_ret pe_bl)))
    pss_nil)
    (pss_one (ps_ret (pe_mt m_Utf8__begin hr (by decide) (pv 0) (pa_cons (pv 1) pa_nil)))))), ?_⟩)
  obtain ⟨_, _, rfl, a, l, s, b, rfl, rfl, hU, hl, h⟩ := h
  have hne := u8_ne hU
  obtain ⟨dx, hA, hL⟩ := id hU
  walk_at "rd"
  refine r_fget hA nb.cl_Utf8 nb.na_Utf8__missing lk_Utf8__missing ?_
  walk_at "rd"
  unfold u8take at h
  refine r_ite (fun c1 => ?_) (fun c1 => ?_)
  · rw [if_pos c1] at h
    walk_at "rd"
    refine r_mget hA no_Utf8__go_on ?_
    walk_at "rd"
    exact ⟨_, _, rfl, a, l, s, b, rfl, rfl, hU, hl, h⟩
  · rw [if_neg c1] at h
    walk_at "rd"
    refine r_ite (fun c2 => ?_) (fun c2 => ?_)
    · rw [if_pos c2] at h
      walk_at "rd"
      refine r_fget hA nb.cl_Utf8 nb.na_Utf8_points lk_Utf8_points ?_
      refine ⟨tyL hL, ?_⟩
      walk_at "rd"
      refine r_appK hL (by simpa using hl) fun H5 hL5 f5 => ?_
      walk_at "rd"
      refine h H5 ⟨dx, ?_, ?_⟩ fun p u p1 p2 z => ?_
      · rw [f5 a (Ne.symm hne)]
        exact hA
      · rw [hL5, map_snoc]
      · rw [f5 p p2]
        exact z
    · rw [if_neg c2] at h
      walk_at "rd"
      refine r_mget hA no_Utf8__begin ?_
      walk_at "rd"
      exact ⟨_, _, rfl, a, l, s, b, rfl, rfl, hU, hl, h⟩
end


def mm8 (c : Int) : Int := if c < 2048 then 1 else if c < 65536 then 2 else 3
theorem mm8_is (c : Int) : mm8 c = 1 ∨ mm8 c = 2 ∨ mm8 c = 3 := by
  unfold mm8
  split
  · exact .inl rfl
  · split
    · exact .inr (.inl rfl)
    · exact .inr (.inr rfl)
theorem enc_low {c : Int} (h : c < 128) : enc1 c = [c] := if_pos h
theorem enc_long {c : Int} (hc : 128 ≤ c) : (c < 2048 ∧ mm8 c = 1 ∧ enc1 c = [192 + c / 64, 128 + c % 64]) ∨ (2048 ≤ c ∧ c < 65536 ∧ mm8 c = 2 ∧ enc1 c = [224 + c / 4096, 128 + c / 64 % 64, 128 + c % 64]) ∨
    (65536 ≤ c ∧ mm8 c = 3 ∧ enc1 c = [240 + c / 262144, 128 + c / 4096 % 64, 128 + c / 64 % 64, 128 + c % 64]) := by
  have h0 : ¬ c < 128 := by omega
  by_cases c1 : c < 2048
  · refine .inl ⟨c1, if_pos c1, ?_⟩
    unfold enc1
    rw [if_neg h0, if_pos c1]
  · by_cases c2 : c < 65536
    · refine .inr (.inl ⟨by omega, c2, ?_, ?_⟩)
      · unfold mm8
        rw [if_neg c1, if_pos c2]
      · unfold enc1
        rw [if_neg h0, if_neg c1, if_pos c2]
    · refine .inr (.inr ⟨by omega, ?_, ?_⟩)
      · unfold mm8
        rw [if_neg c1, if_neg c2]
      · unfold enc1
        rw [if_neg h0, if_neg c1, if_neg c2]
theorem long_zero {c : Int} (hc : 128 ≤ c) : [mark8 (mm8 c) + c / 2 ^ (6 * mm8 c).toNat] = (enc1 c).take 1 := by
  rcases enc_long hc with ⟨_, e1, e2⟩ | ⟨_, _, e1, e2⟩ | ⟨_, e1, e2⟩ <;> rw [e1, e2] <;> rfl
theorem long_step {c : Int} {i : Nat} (hc : 128 ≤ c) (hi : i < (mm8 c).toNat) : (enc1 c).take (i + 1) ++ [128 + c / 2 ^ (6 * mm8 c - 6 + (i : Int) * (-6)).toNat % 64] = (enc1 c).take (i + 2) := by
  rcases enc_long hc with ⟨_, e1, e2⟩ | ⟨_, _, e1, e2⟩ | ⟨_, e1, e2⟩
  · rw [e1] at hi ⊢
    rw [e2]
    have e : i = 0 := by
      have : i < 1 := hi
      omega
    subst e
    show [192 + c / 64, 128 + c / 1 % 64] = [192 + c / 64, 128 + c % 64]
    rw [Int.ediv_one]
  · rw [e1] at hi ⊢
    rw [e2]
    have e : i = 0 ∨ i = 1 := by
      have : i < 2 := hi
      omega
    rcases e with e | e
    · subst e
      rfl
    · subst e
      show [224 + c / 4096, 128 + c / 64 % 64, 128 + c / 1 % 64] = [224 + c / 4096, 128 + c / 64 % 64, 128 + c % 64]
      rw [Int.ediv_one]
  · rw [e1] at hi ⊢
    rw [e2]
    have e : i = 0 ∨ i = 1 ∨ i = 2 := by
      have : i < 3 := hi
      omega
    rcases e with e | e | e
    · subst e
      rfl
    · subst e
      rfl
    · subst e
      show [240 + c / 262144, 128 + c / 4096 % 64, 128 + c / 64 % 64, 128 + c / 1 % 64] = [240 + c / 262144, 128 + c / 4096 % 64, 128 + c / 64 % 64, 128 + c % 64]
      rw [Int.ediv_one]
theorem long_all {c : Int} (hc : 128 ≤ c) : (enc1 c).take ((mm8 c).toNat + 1) = enc1 c := by
  rcases enc_long hc with ⟨_, e1, e2⟩ | ⟨_, _, e1, e2⟩ | ⟨_, e1, e2⟩ <;> rw [e1, e2] <;> rfl
theorem mark8_at (m : Int) (h : m = 1 ∨ m = 2 ∨ m = 3) : atI ([0, 192, 224, 240].map V.int) m = some (.int (mark8 m)) := by
  rcases h with e | e | e <;> rw [e] <;> rfl
theorem rows8_m : ∀ r ∈ rows8, r.m = 1 ∨ r.m = 2 ∨ r.m = 3 := by decide
theorem len_enc1 (c : Int) : 1 ≤ (enc1 c).length ∧ (enc1 c).length ≤ 4 := by
  by_cases h : c < 128
  · rw [enc_low h]
    simp
  · rcases enc_long (by omega : 128 ≤ c) with ⟨_, _, e2⟩ | ⟨_, _, _, e2⟩ | ⟨_, _, e2⟩ <;> rw [e2] <;> simp
theorem len_encs : ∀ cs : List Int, (encs cs).length ≤ 4 * cs.length
  | [] => Nat.le_refl _
  | c :: cs => by
    have h := len_encs cs
    have g := (len_enc1 c).2
    show (enc1 c ++ encs cs).length ≤ _
    rw [List.length_append, List.length_cons]
    omega
theorem encs_snoc (cs : List Int) (c : Int) : encs (cs ++ [c]) = encs cs ++ enc1 c := by
  unfold encs
  rw [List.flatMap_append]
  simp
section
variable {P : Program} {w : World} {K : PySem.W.Frag} {mg : Str → Option Value} {base : Heap} {f : Addr} {fd : FuncData}
theorem ok_Utf8__begin (F : FunD K "_begin" "Utf8._begin" (defArgs s_Utf8__begin) (defBody s_Utf8__begin) (defScope s_Utf8__begin) [] [] (meAd "Utf8" "_begin" K) fd) (nb : Nm K mg) : Met P w K mg base 1 (C_Utf8 K) "_begin" (sp_Utf8__begin K) [] := by
  obtain ⟨v_FIRSTS, u_FIRSTS, e_FIRSTS, r_FIRSTS, k_FIRSTS⟩ := nb.g_FIRSTS
  obtain ⟨v_MARKS, u_MARKS, e_MARKS, r_MARKS, k_MARKS⟩ := nb.g_MARKS
  refine metD F nb.cl_Utf8 nb.me_Utf8__begin sc_Utf8__begin (fun _ _ _ _ _ _ us hl => match us, hl with | [_, _], _ => rfl) len2 (fun cdv A outer s H vs Q E hr h => ⟨_, (pss_cons (ps_for PassesOwn.never rfl (pi_tup (pe_gc rfl ⟨u_FIRSTS, e_FIRSTS, r_FIRSTS⟩)) (pg_tup rfl (pgs_cons (pg_name (i := 2) sc_Utf8__begin.nd rfl (Or.inl rfl)) (pgs_cons (pg_name (i := 3) sc_Utf8__begin.nd rfl (Or.inl rfl)) (pgs_cons (pg_name (i := 4) sc_Utf8__begin.nd rfl (Or.inl rfl)) (pgs_cons (pg_name (i := 5) sc_Utf8__begin.nd rfl (Or.inl rfl)) (pgs_cons (pg_name (i := 6) sc_Utf8__begin.nd rfl (Or.inl rfl)) pgs_nil))))))
    (pss_one (ps_if (pt_chain op_le op_le (pv 2) (pv 1) (pv 3))
    (pss_cons (ps_fld (pv 0) (pv 4) rfl)
    (pss_cons (ps_fld (pv 0) (pe_op op_sub (pv 1) (pe_ix ix_tup (pe_gc rfl ⟨u_MARKS, e_MARKS, r_MARKS⟩) (pv 4) (fun _ _ => rfl))) rfl)
    (pss_cons (ps_fld (pv 0) (pv 5) rfl)
    (pss_cons (ps_fld (pv 0) (pv 6) rfl)
    (pss_one (ps_ret pe_bl))))))
    pss_nil)))
    (pss_one (ps_ret pe_bl))), ?_⟩)
  obtain ⟨_, _, rfl, a, l, s, b, rfl, rfl, hU, hl, h⟩ := h
  have hne := u8_ne hU
  obtain ⟨dx, hA, hL⟩ := id hU
  obtain ⟨tf, xs, rfl, hT, hD⟩ := dp_tup (k_FIRSTS H)
  have hD : DpAll K H xs (rows8.map U8R.dat) := hD
  have eN : xs.length = rows8.length := by rw [dp_len hD, List.length_map]
  walk_at "rd"
  refine ⟨tf, rfl, ⟨xs, hT⟩, r_eachT (xs := xs) (fun i σ H' => H = H' ∧ (∀ j row, j < i → rows8[j]? = some row → row.is b = false) ∧ ∃ y1 y2 y3 y4 y5, σ = [some (.ref a), some (.int b), y1, y2, y3, y4, y5])
    ⟨rfl, fun j row h => absurd h (Nat.not_lt_zero _), _, _, _, _, _, rfl⟩ ?_ ?_ ?_⟩
  · rintro i σ _ ⟨rfl, _⟩
    exact hT
  · rintro i x σ _ hx ⟨rfl, hj, y1, y2, y3, y4, y5, rfl⟩
    obtain ⟨d, hd, hxd⟩ := dp_get hD hx
    rw [List.getElem?_map] at hd
    obtain ⟨row, hrow, rfl⟩ := Option.map_eq_some_iff.mp hd
    obtain ⟨tr, zs, rfl, hr, hz⟩ := dp_tup (show Dp K H x (.tuple ([row.f, row.l, row.m, row.le, row.mo].map PyData.int)) from hxd)
    have hz := dp_ints _ hz
    subst hz
    have hm := rows8_m row (List.mem_of_getElem? hrow)
    have hr : SqT K H tr [.int row.f, .int row.l, .int row.m, .int row.le, .int row.mo] := hr
    refine r_gtup hr rfl ?_
    walk_at "rd"
    refine r_ite (fun c1 => ?_) (fun c1 => ?_)
    · walk_at "rd"
      refine r_ite (fun c2 => ?_) (fun c2 => ?_)
      · have hf : rows8.find? (·.is b) = some row := by
          obtain ⟨hi, ei⟩ := List.getElem?_eq_some_iff.mp hrow
          refine List.find?_eq_some_iff_getElem.mpr ⟨?_, i, hi, ei, fun j hji => ?_⟩
          · exact decide_eq_true ⟨c1, c2⟩
          · rw [hj j _ hji (List.getElem?_eq_getElem (Nat.lt_trans hji hi))]
            rfl
        have e : u8start s b = (true, ⟨s.ps, row.m, b - mark8 row.m, row.le, row.mo⟩) := by
          unfold u8start
          rw [hf]
        rw [e] at h
        walk_at "rd"
        refine r_fsetK hA nb.cl_Utf8 nb.na_Utf8__missing (few_Utf8) pt_Utf8__missing fun H1 hA1 f1 => ?_
        obtain ⟨tm, ys, rfl, hM, hE⟩ := dp_tup (k_MARKS H1)
        have hE : ys = [0, 192, 224, 240].map V.int := dp_ints _ hE
        subst hE
        walk_at "rd"
        refine r_ixT hM (mark8_at row.m hm) ?_
        walk_at "rd"
        refine r_fsetK hA1 nb.cl_Utf8 nb.na_Utf8__worth (few_Utf8) pt_Utf8__worth fun H2 hA2 f2 => ?_
        walk_at "rd"
        refine r_fsetK hA2 nb.cl_Utf8 nb.na_Utf8__least (few_Utf8) pt_Utf8__least fun H3 hA3 f3 => ?_
        walk_at "rd"
        refine r_fsetK hA3 nb.cl_Utf8 nb.na_Utf8__most (few_Utf8) pt_Utf8__most fun H4 hA4 f4 => ?_
        walk_at "rd"
        refine h H4 ⟨dx, hA4, ?_⟩ fun p u p1 p2 z => ?_
        · rw [f4 l hne, f3 l hne, f2 l hne, f1 l hne]
          exact hL
        · rw [f4 p p1, f3 p p1, f2 p p1, f1 p p1]
          exact z
      · walk_at "rd"
        refine ⟨rfl, fun j row' hji hr' => ?_, _, _, _, _, _, rfl⟩
        by_cases e : j = i
        · subst e
          rw [hrow] at hr'
          cases hr'
          exact decide_eq_false fun z => c2 z.2
        · exact hj j row' (by omega) hr'
    · walk_at "rd"
      refine ⟨rfl, fun j row' hji hr' => ?_, _, _, _, _, _, rfl⟩
      by_cases e : j = i
      · subst e
        rw [hrow] at hr'
        cases hr'
        exact decide_eq_false fun z => c1 z.1
      · exact hj j row' (by omega) hr'
  · rintro σ _ ⟨rfl, hj, y1, y2, y3, y4, y5, rfl⟩
    have hf : rows8.find? (·.is b) = none := by
      refine List.find?_eq_none.mpr fun row hr => ?_
      obtain ⟨j, hjl, ej⟩ := List.getElem_of_mem hr
      rw [hj j row (by rw [eN]; exact hjl) (by rw [List.getElem?_eq_getElem hjl, ej])]
      decide
    have e : u8start s b = (false, s) := by
      unfold u8start
      rw [hf]
    rw [e] at h
    walk_at "rd"
    exact h H hU fun _ _ _ _ z => z
theorem row_same {H H' : Hp} {a : Addr} {zs : List Int} (h : RowAt H a zs) (s : Same H H') : RowAt H' a zs := h.elim (fun h => .inl (s _ _ h)) fun h => .inr (s _ _ h)
end


def u8run (s : U8) : List Int → Option U8
  | [] => some s
  | b :: bs => if (u8take s b).1 = true then u8run (u8take s b).2 bs else none
theorem u8run_snoc : ∀ (zs : List Int) (s t : U8) (z : Int), u8run s zs = some t → (u8take t z).1 = true → u8run s (zs ++ [z]) = some (u8take t z).2
  | [], s, t, z, h, e => by
    cases h
    show (if (u8take s z).1 = true then some (u8take s z).2 else none) = _
    rw [if_pos e]
  | b :: bs, s, t, z, h, e => by
    unfold u8run at h
    show (if (u8take s b).1 = true then u8run (u8take s b).2 (bs ++ [z]) else none) = _
    by_cases c : (u8take s b).1 = true
    · rw [if_pos c] at h ⊢
      exact u8run_snoc bs _ t z h e
    · rw [if_neg c] at h
      cases h
theorem u8run_app : ∀ (l rest : List Int) (S : Nat → U8), (∀ k b, l[k]? = some b → u8take (S k) b = (true, S (k + 1))) → u8run (S 0) (l ++ rest) = u8run (S l.length) rest
  | [], rest, S, _ => rfl
  | b :: bs, rest, S, h => by
    have e := h 0 b rfl
    show (if (u8take (S 0) b).1 = true then u8run (u8take (S 0) b).2 (bs ++ rest) else none) = _
    rw [e, if_pos rfl]
    exact u8run_app bs rest (fun k => S (k + 1)) fun k b' hb => h (k + 1) b' hb
theorem len_if {p : Prop} [Decidable p] (ps : List Int) (x : Int) : (if p then ps ++ [x] else ps).length ≤ ps.length + 1 := by
  split
  · simp
  · omega
theorem u8take_len (s : U8) (b : Int) : (u8take s b).2.ps.length ≤ s.ps.length + 1 := by
  unfold u8take
  split
  · unfold u8go
    split
    · exact len_if s.ps _
    · exact Nat.le_succ _
  · split
    · show (s.ps ++ [b]).length ≤ _
      simp
    · unfold u8start
      split
      · exact Nat.le_succ _
      · exact Nat.le_succ _
theorem rows8_up : ∀ i < 8, ∀ j < i, ∀ r q, rows8[i]? = some r → rows8[j]? = some q → q.l < r.f := by
  intro i hi j hj r q h1 h2
  have e : (i = 0 ∨ i = 1 ∨ i = 2 ∨ i = 3 ∨ i = 4 ∨ i = 5 ∨ i = 6 ∨ i = 7) := by omega
  have e' : (j = 0 ∨ j = 1 ∨ j = 2 ∨ j = 3 ∨ j = 4 ∨ j = 5 ∨ j = 6 ∨ j = 7) := by omega
  rcases e with e | e | e | e | e | e | e | e <;> subst e <;> cases h1 <;> (rcases e' with e | e | e | e | e | e | e | e <;> subst e <;> cases h2 <;> first | decide | (exfalso; omega))
theorem u8start_eq (s : U8) (b : Int) (i : Nat) (r : U8R) (hi : rows8[i]? = some r) (h : r.f ≤ b ∧ b ≤ r.l) : u8start s b = (true, ⟨s.ps, r.m, b - mark8 r.m, r.le, r.mo⟩) := by
  have hf : rows8.find? (·.is b) = some r := by
    obtain ⟨hl, ei⟩ := List.getElem?_eq_some_iff.mp hi
    refine List.find?_eq_some_iff_getElem.mpr ⟨decide_eq_true h, i, hl, ei, fun j hj => ?_⟩
    have := rows8_up i hl j hj r rows8[j] hi (List.getElem?_eq_getElem (Nat.lt_trans hj hl))
    have e : U8R.is rows8[j] b = false := decide_eq_false (by omega)
    rw [e]
    rfl
  unfold u8start
  rw [hf]
def oc0 (c : Int) : Int := if c < 2048 then 192 + c / 64 else if c < 65536 then 224 + c / 4096 else 240 + c / 262144
def oc1 (c : Int) : Int := if c < 2048 then 128 + c % 64 else if c < 65536 then 128 + c / 64 % 64 else 128 + c / 4096 % 64
theorem row_of {c : Int} (hc : 128 ≤ c) (hP : Point c) : ∃ (i : Nat) (r : U8R), rows8[i]? = some r ∧ (r.f ≤ oc0 c ∧ oc0 c ≤ r.l) ∧ r.m = mm8 c ∧ r.le ≤ oc1 c ∧ oc1 c ≤ r.mo := by
  obtain ⟨p1, p2, p3⟩ := hP
  unfold oc0 oc1 mm8
  by_cases c1 : c < 2048
  · rw [if_pos c1, if_pos c1, if_pos c1]
    exact ⟨0, _, rfl, ⟨by show (194 : Int) ≤ _; omega, by show _ ≤ (223 : Int); omega⟩, rfl, by show (128 : Int) ≤ _; omega, by show _ ≤ (191 : Int); omega⟩
  rw [if_neg c1, if_neg c1, if_neg c1]
  by_cases c2 : c < 65536
  · rw [if_pos c2, if_pos c2, if_pos c2]
    by_cases d1 : c < 4096
    · exact ⟨1, _, rfl, ⟨by show (224 : Int) ≤ _; omega, by show _ ≤ (224 : Int); omega⟩, rfl, by show (160 : Int) ≤ _; omega, by show _ ≤ (191 : Int); omega⟩
    by_cases d2 : c < 53248
    · exact ⟨2, _, rfl, ⟨by show (225 : Int) ≤ _; omega, by show _ ≤ (236 : Int); omega⟩, rfl, by show (128 : Int) ≤ _; omega, by show _ ≤ (191 : Int); omega⟩
    by_cases d3 : c < 57344
    · exact ⟨3, _, rfl, ⟨by show (237 : Int) ≤ _; omega, by show _ ≤ (237 : Int); omega⟩, rfl, by show (128 : Int) ≤ _; omega, by show _ ≤ (159 : Int); omega⟩
    · exact ⟨4, _, rfl, ⟨by show (238 : Int) ≤ _; omega, by show _ ≤ (239 : Int); omega⟩, rfl, by show (128 : Int) ≤ _; omega, by show _ ≤ (191 : Int); omega⟩
  · rw [if_neg c2, if_neg c2, if_neg c2]
    by_cases d1 : c < 262144
    · exact ⟨5, _, rfl, ⟨by show (240 : Int) ≤ _; omega, by show _ ≤ (240 : Int); omega⟩, rfl, by show (144 : Int) ≤ _; omega, by show _ ≤ (191 : Int); omega⟩
    by_cases d2 : c < 1048576
    · exact ⟨6, _, rfl, ⟨by show (241 : Int) ≤ _; omega, by show _ ≤ (243 : Int); omega⟩, rfl, by show (128 : Int) ≤ _; omega, by show _ ≤ (191 : Int); omega⟩
    · exact ⟨7, _, rfl, ⟨by show (244 : Int) ≤ _; omega, by show _ ≤ (244 : Int); omega⟩, rfl, by show (128 : Int) ≤ _; omega, by show _ ≤ (143 : Int); omega⟩
theorem take_start {s : U8} {b : Int} (h0 : s.ms = 0) (h1 : 128 ≤ b) : u8take s b = u8start s b := by
  unfold u8take
  rw [if_neg (by omega), if_neg (by omega)]
theorem take_go {s : U8} {b : Int} (h0 : 0 < s.ms) (h1 : s.le ≤ b ∧ b ≤ s.mo) : u8take s b = (true, ⟨if s.ms - 1 = 0 then s.ps ++ [s.wo * 64 + b - 128] else s.ps, s.ms - 1, s.wo * 64 + b - 128, 128, 191⟩) := by
  unfold u8take u8go
  rw [if_pos h0, if_pos h1]
theorem take_low {s : U8} {b : Int} (h0 : s.ms = 0) (h1 : b < 128) : u8take s b = (true, { s with ps := s.ps ++ [b] }) := by
  unfold u8take
  rw [if_neg (by omega), if_pos h1]
theorem mid_of {w b : Int} : (128 : Int) ≤ 128 + w % 64 ∧ 128 + w % 64 ≤ 191 := by omega
/-- the states over one character's octets -/
theorem u8char {c : Int} (hP : Point c) (s : U8) (h0 : s.ms = 0) : ∃ S : Nat → U8, S 0 = s ∧ (∀ k b, (enc1 c)[k]? = some b → u8take (S k) b = (true, S (k + 1))) ∧ (S (enc1 c).length).ms = 0 ∧ (S (enc1 c).length).ps = s.ps ++ [c] ∧
    ∀ k, k < (enc1 c).length → (S k).ps = s.ps ∧ (0 < k → 0 < (S k).ms) := by
  by_cases hc : c < 128
  · rw [enc_low hc]
    refine ⟨fun k => match k with | 0 => s | _ => { s with ps := s.ps ++ [c] }, rfl, fun k b hb => ?_, h0, rfl, fun k hk => ?_⟩
    · match k, hb with
      | 0, hb =>
        cases hb
        exact take_low h0 hc
      | k + 1, hb => cases hb
    · match k, hk with
      | 0, _ => exact ⟨rfl, fun h => absurd h (by decide)⟩
      | k + 1, hk => exact absurd hk (by simp)
  have hc : 128 ≤ c := by omega
  obtain ⟨i, r, hr, hf, hm, hl, hmo⟩ := row_of hc hP
  have hP1 := hP.1
  have hP2 := hP.2.1
  rcases enc_long hc with ⟨c1, e1, e2⟩ | ⟨c1, c2, e1, e2⟩ | ⟨c1, e1, e2⟩
  · have o0 : oc0 c = 192 + c / 64 := if_pos c1
    have o1 : oc1 c = 128 + c % 64 := if_pos c1
    rw [o0] at hf
    rw [o1] at hl hmo
    rw [e1] at hm
    rw [e2]
    have t0 := (take_start (b := 192 + c / 64) h0 (by omega)).trans (u8start_eq s (192 + c / 64) i r hr hf)
    rw [hm] at t0
    have t1 := take_go (s := ⟨s.ps, 1, 192 + c / 64 - mark8 1, r.le, r.mo⟩) (b := 128 + c % 64) (by show (0 : Int) < 1; decide) ⟨hl, hmo⟩
    refine ⟨fun k => match k with | 0 => s | 1 => ⟨s.ps, 1, 192 + c / 64 - mark8 1, r.le, r.mo⟩ | _ => ⟨s.ps ++ [(192 + c / 64 - mark8 1) * 64 + (128 + c % 64) - 128], 0, (192 + c / 64 - mark8 1) * 64 + (128 + c % 64) - 128, 128, 191⟩, rfl, fun k b hb => ?_, rfl, ?_, fun k hk => ?_⟩
    · match k, hb with
      | 0, hb =>
        cases hb
        exact t0
      | 1, hb =>
        cases hb
        exact t1
      | k + 2, hb => cases hb
    · show s.ps ++ [(192 + c / 64 - 192) * 64 + (128 + c % 64) - 128] = _
      rw [show (192 + c / 64 - 192) * 64 + (128 + c % 64) - 128 = c by omega]
    · match k, hk with
      | 0, _ => exact ⟨rfl, fun h => absurd h (by decide)⟩
      | 1, _ => exact ⟨rfl, fun h => by show (0 : Int) < 1; decide⟩
      | k + 2, hk => exact absurd hk (by simp)
  · have o0 : oc0 c = 224 + c / 4096 := by
      unfold oc0
      rw [if_neg (by omega), if_pos c2]
    have o1 : oc1 c = 128 + c / 64 % 64 := by
      unfold oc1
      rw [if_neg (by omega), if_pos c2]
    rw [o0] at hf
    rw [o1] at hl hmo
    rw [e1] at hm
    rw [e2]
    have t0 := (take_start (b := 224 + c / 4096) h0 (by omega)).trans (u8start_eq s (224 + c / 4096) i r hr hf)
    rw [hm] at t0
    have t1 := take_go (s := ⟨s.ps, 2, 224 + c / 4096 - mark8 2, r.le, r.mo⟩) (b := 128 + c / 64 % 64) (by show (0 : Int) < 2; decide) ⟨hl, hmo⟩
    have t2 := take_go (s := ⟨s.ps, 1, (224 + c / 4096 - mark8 2) * 64 + (128 + c / 64 % 64) - 128, 128, 191⟩) (b := 128 + c % 64) (by show (0 : Int) < 1; decide) ⟨by show (128 : Int) ≤ _; omega, by show _ ≤ (191 : Int); omega⟩
    refine ⟨fun k => match k with | 0 => s | 1 => ⟨s.ps, 2, 224 + c / 4096 - mark8 2, r.le, r.mo⟩ | 2 => ⟨s.ps, 1, (224 + c / 4096 - mark8 2) * 64 + (128 + c / 64 % 64) - 128, 128, 191⟩ | _ => ⟨s.ps ++ [((224 + c / 4096 - mark8 2) * 64 + (128 + c / 64 % 64) - 128) * 64 + (128 + c % 64) - 128], 0, ((224 + c / 4096 - mark8 2) * 64 + (128 + c / 64 % 64) - 128) * 64 + (128 + c % 64) - 128, 128, 191⟩, rfl, fun k b hb => ?_, rfl, ?_, fun k hk => ?_⟩
    · match k, hb with
      | 0, hb =>
        cases hb
        exact t0
      | 1, hb =>
        cases hb
        exact t1
      | 2, hb =>
        cases hb
        exact t2
      | k + 3, hb => cases hb
    · show s.ps ++ [((224 + c / 4096 - 224) * 64 + (128 + c / 64 % 64) - 128) * 64 + (128 + c % 64) - 128] = _
      rw [show ((224 + c / 4096 - 224) * 64 + (128 + c / 64 % 64) - 128) * 64 + (128 + c % 64) - 128 = c by omega]
    · match k, hk with
      | 0, _ => exact ⟨rfl, fun h => absurd h (by decide)⟩
      | 1, _ => exact ⟨rfl, fun h => by show (0 : Int) < 2; decide⟩
      | 2, _ => exact ⟨rfl, fun h => by show (0 : Int) < 1; decide⟩
      | k + 3, hk => exact absurd hk (by simp)
  · have o0 : oc0 c = 240 + c / 262144 := by
      unfold oc0
      rw [if_neg (by omega), if_neg (by omega)]
    have o1 : oc1 c = 128 + c / 4096 % 64 := by
      unfold oc1
      rw [if_neg (by omega), if_neg (by omega)]
    rw [o0] at hf
    rw [o1] at hl hmo
    rw [e1] at hm
    rw [e2]
    have t0 := (take_start (b := 240 + c / 262144) h0 (by omega)).trans (u8start_eq s (240 + c / 262144) i r hr hf)
    rw [hm] at t0
    have t1 := take_go (s := ⟨s.ps, 3, 240 + c / 262144 - mark8 3, r.le, r.mo⟩) (b := 128 + c / 4096 % 64) (by show (0 : Int) < 3; decide) ⟨hl, hmo⟩
    have t2 := take_go (s := ⟨s.ps, 2, (240 + c / 262144 - mark8 3) * 64 + (128 + c / 4096 % 64) - 128, 128, 191⟩) (b := 128 + c / 64 % 64) (by show (0 : Int) < 2; decide) ⟨by show (128 : Int) ≤ _; omega, by show _ ≤ (191 : Int); omega⟩
    have t3 := take_go (s := ⟨s.ps, 1, ((240 + c / 262144 - mark8 3) * 64 + (128 + c / 4096 % 64) - 128) * 64 + (128 + c / 64 % 64) - 128, 128, 191⟩) (b := 128 + c % 64) (by show (0 : Int) < 1; decide) ⟨by show (128 : Int) ≤ _; omega, by show _ ≤ (191 : Int); omega⟩
    refine ⟨fun k => match k with | 0 => s | 1 => ⟨s.ps, 3, 240 + c / 262144 - mark8 3, r.le, r.mo⟩ | 2 => ⟨s.ps, 2, (240 + c / 262144 - mark8 3) * 64 + (128 + c / 4096 % 64) - 128, 128, 191⟩ | 3 => ⟨s.ps, 1, ((240 + c / 262144 - mark8 3) * 64 + (128 + c / 4096 % 64) - 128) * 64 + (128 + c / 64 % 64) - 128, 128, 191⟩ | _ => ⟨s.ps ++ [(((240 + c / 262144 - mark8 3) * 64 + (128 + c / 4096 % 64) - 128) * 64 + (128 + c / 64 % 64) - 128) * 64 + (128 + c % 64) - 128], 0, (((240 + c / 262144 - mark8 3) * 64 + (128 + c / 4096 % 64) - 128) * 64 + (128 + c / 64 % 64) - 128) * 64 + (128 + c % 64) - 128, 128, 191⟩, rfl, fun k b hb => ?_, rfl, ?_, fun k hk => ?_⟩
    · match k, hb with
      | 0, hb =>
        cases hb
        exact t0
      | 1, hb =>
        cases hb
        exact t1
      | 2, hb =>
        cases hb
        exact t2
      | 3, hb =>
        cases hb
        exact t3
      | k + 4, hb => cases hb
    · show s.ps ++ [(((240 + c / 262144 - 240) * 64 + (128 + c / 4096 % 64) - 128) * 64 + (128 + c / 64 % 64) - 128) * 64 + (128 + c % 64) - 128] = _
      rw [show (((240 + c / 262144 - 240) * 64 + (128 + c / 4096 % 64) - 128) * 64 + (128 + c / 64 % 64) - 128) * 64 + (128 + c % 64) - 128 = c by omega]
    · match k, hk with
      | 0, _ => exact ⟨rfl, fun h => absurd h (by decide)⟩
      | 1, _ => exact ⟨rfl, fun h => by show (0 : Int) < 3; decide⟩
      | 2, _ => exact ⟨rfl, fun h => by show (0 : Int) < 2; decide⟩
      | 3, _ => exact ⟨rfl, fun h => by show (0 : Int) < 1; decide⟩
      | k + 4, hk => exact absurd hk (by simp)
theorem u8run_encs : ∀ (cs : List Int) (s : U8), (∀ c ∈ cs, Point c) → s.ms = 0 → ∃ t, u8run s (encs cs) = some t ∧ t.ms = 0 ∧ t.ps = s.ps ++ cs
  | [], s, _, h0 => ⟨s, rfl, h0, (List.append_nil _).symm⟩
  | c :: cs, s, hc, h0 => by
    obtain ⟨S, e0, hS, hm, hp, _⟩ := u8char (hc c (List.mem_cons_self ..)) s h0
    have e := u8run_app (enc1 c) (encs cs) S hS
    rw [e0] at e
    obtain ⟨t, h1, h2, h3⟩ := u8run_encs cs (S (enc1 c).length) (fun c h => hc c (List.mem_cons_of_mem _ h)) hm
    refine ⟨t, e.trans h1, h2, ?_⟩
    rw [h3, hp, List.append_assoc]
    rfl


/-! ### over a list or a tuple of numbers -/
theorem r_eachRow {σ : St} {H : Hp} {n : St → Hp → Prop} {r : VK} {K : PySem.W.Frag} {k : Nat} {g : TG} {tb : TS} {a : Addr} {zs : List Int} (e : σ[k]? = some (some (.ref a))) (hR : RowAt H a zs) (Pv : Nat → St → Hp → Prop) (h0 : Pv 0 σ H) (hl : ∀ i σ H', Pv i σ H' → ∀ u, H a = some u → H' a = some u)
    (hs : ∀ (i : Nat) (z : Int) σ H', zs[i]? = some z → Pv i σ H' → g (.int z) σ H' fun σ2 H2 => tb ⟨Pv (i + 1), r, n, Pv (i + 1)⟩ σ2 H2) (hd : ∀ σ H', Pv zs.length σ H' → n σ H') :
    (iList K (tVar k) σ H fun J H1 => ∃ W : Nat → Nat → St → Hp → Prop, (∃ m, W 0 m σ H1) ∧ ∀ i m σ H, W i m σ H →
    (J.stop i H ∧ n σ H) ∨ (J.go i H ∧ ∃ N : St → Hp → Prop, (∀ σ' H', N σ' H' → ∃ m', m' < m ∧ W (i + 1) m' σ' H') ∧ ∀ x H', J.yld i H x H' → g x σ H' fun σ2 H2 => tb ⟨N, r, n, N⟩ σ2 H2)) ∨
    (iTup K (tVar k) σ H fun J H1 => ∃ W : Nat → Nat → St → Hp → Prop, (∃ m, W 0 m σ H1) ∧ ∀ i m σ H, W i m σ H →
    (J.stop i H ∧ n σ H) ∨ (J.go i H ∧ ∃ N : St → Hp → Prop, (∀ σ' H', N σ' H' → ∃ m', m' < m ∧ W (i + 1) m' σ' H') ∧ ∀ x H', J.yld i H x H' → g x σ H' fun σ2 H2 => tb ⟨N, r, n, N⟩ σ2 H2)) := by
  have st : ∀ (i : Nat) (x : V) σ H', (zs.map V.int)[i]? = some x → Pv i σ H' → g x σ H' fun σ2 H2 => tb ⟨Pv (i + 1), r, n, Pv (i + 1)⟩ σ2 H2 := fun i x σ H' e p => by
    obtain ⟨c, h1, rfl, _⟩ := ints_get e
    exact hs i c σ H' h1 p
  rcases hR with q | q
  · have hd' : ∀ σ H', Pv (zs.map V.int).length σ H' → n σ H' := by
      rw [List.length_map]
      exact hd
    exact .inl (r_itL ⟨_, e, a, rfl, ⟨_, SqL.of q⟩, r_eachL Pv h0 (fun i σ H' p => SqL.of (hl i σ H' p _ q)) st hd'⟩)
  · have hd' : ∀ σ H', Pv (zs.map V.int).length σ H' → n σ H' := by
      rw [List.length_map]
      exact hd
    exact .inr (r_itT ⟨_, e, a, rfl, ⟨_, SqT.of q⟩, r_eachT Pv h0 (fun i σ H' p => SqT.of (hl i σ H' p _ q)) st hd'⟩)

def sp__encode_long (K : Frg) : Sp := sp1 fun p H Q _ => ∃ c, p = .int c ∧ 128 ≤ c ∧ c ≤ 1114111 ∧ ∀ l H', H l = none → H' l = some (.lst ((enc1 c).map V.int)) → Same H H' → Q (.ref l) H'
def sp_encode (K : Frg) : Sp := sp1 fun p H Q _ => ∃ a cs, p = .ref a ∧ RowAt H a cs ∧ (∀ c ∈ cs, Point c) ∧ 4 * cs.length < sizeLine ∧ ∀ l H', H l = none → H' l = some (.lst ((encs cs).map V.int)) → Same H H' → Q (.ref l) H'


section
variable {P : Program} {w : World} {K : PySem.W.Frag} {mg : Str → Option Value} {base : Heap} {f : Addr} {fd : FuncData}
theorem ok__encode_long (F : FunD K "_encode_long" "_encode_long" (defArgs s__encode_long) (defBody s__encode_long) (defScope s__encode_long) [] [] (glAd "_encode_long" K) fd) (m : mg "_encode_long" = some (.ref (glAd "_encode_long" K))) (nb : Nm K mg) : Cal P w K mg base 1 "_encode_long" (sp__encode_long K) [] := by
  obtain ⟨v_MARKS, u_MARKS, e_MARKS, r_MARKS, k_MARKS⟩ := nb.g_MARKS
  refine calD F m sc__encode_long (fun _ _ _ _ _ _ us hl => match us, hl with | [_], _ => rfl) len1 (fun cdv A outer s H vs Q E hr h => ⟨_, (pss_cons (ps_set (i := 1) sc__encode_long.nd rfl (Or.inl rfl) (pe_ifExp (pt_cmpR op_lt (pv 0) pe_int (nomark _)) pe_int (pe_ifExp (pt_cmpR op_lt (pv 0) pe_int (nomark _)) pe_int pe_int)))
    (pss_cons (ps_set (i := 2) sc__encode_long.nd rfl (Or.inl rfl) (pe_lst (pa_cons (pe_op op_add (pe_ix ix_tup (pe_gc rfl ⟨u_MARKS, e_MARKS, r_MARKS⟩) (pv 1) (fun _ _ => rfl)) (pe_op op_shr (pv 0) (pe_op op_mul pe_int (pv 1)))) pa_nil)))
    (pss_cons (ps_for PassesOwn.never rfl (pi_range3 rfl nb.range (pa_cons (pe_op op_sub (pe_op op_mul pe_int (pv 1)) pe_int) (pa_cons (pe_un un_neg pe_int) (pa_cons (pe_un un_neg pe_int) pa_nil)))) (pg_name (i := 3) sc__encode_long.nd rfl (Or.inl rfl))
    (pss_one (ps_expr (pe_bm PySem.F.plainAttrs_list PySem.F.slot_list_append PySem.F.type_list_append mt_append (pv 2) (pa_cons (pe_op op_add pe_int (pe_op op_mod (pe_op op_shr (pv 0) (pv 3)) pe_int)) pa_nil)))))
    (pss_one (ps_ret (pv 2)))))), ?_⟩)
  obtain ⟨_, rfl, c, rfl, c0, c1, h⟩ := h
  obtain ⟨tm, ys, rfl, hM, hE⟩ := dp_tup (k_MARKS H)
  have hE : ys = [0, 192, 224, 240].map V.int := dp_ints _ hE
  subst hE
  walk_at "rd"
  refine r_iteJ (.int (mm8 c)) ?_ ?_ ?_
  · intro c2 R hR
    unfold mm8 at hR
    rw [if_pos c2] at hR
    exact hR
  · intro c2 R hR
    unfold mm8 at hR
    rw [if_neg c2] at hR
    walk_at "rd"
    refine r_ite (fun c3 => ?_) (fun c3 => ?_)
    · rw [if_pos c3] at hR
      exact hR
    · rw [if_neg c3] at hR
      exact hR
  walk_at "rd"
  refine r_ixT hM (mark8_at (mm8 c) (mm8_is c)) ?_
  have hm := mm8_is c
  walk_at "rd"
  refine r_I (by omega) ?_
  walk_at "rd"
  refine ⟨by show 1 ≤ sizeLine; decide, fun l hl => ?_⟩
  have hL : upd H l (.lst [.int (mark8 (mm8 c) + c / 2 ^ (6 * mm8 c).toNat)]) l = some (.lst (((enc1 c).take 1).map V.int)) := by
    rw [upd_same, ← long_zero c0]
    rfl
  have hS := same_upd hl (.lst [.int (mark8 (mm8 c) + c / 2 ^ (6 * mm8 c).toNat)])
  generalize upd H l (.lst [.int (mark8 (mm8 c) + c / 2 ^ (6 * mm8 c).toNat)]) = H0 at hL hS ⊢
  walk_at "rd"
  refine ⟨_, _, _, (mm8 c).toNat, rfl, r_eachR (mm8 c).toNat (by rcases hm with e | e | e <;> rw [e] <;> exact ⟨by decide, by decide, by decide, by decide⟩)
    (fun i σ H' => ∃ y, σ = [some (.int c), some (.int (mm8 c)), some (.ref l), y] ∧ H' l = some (.lst (((enc1 c).take (i + 1)).map V.int)) ∧ Same H H') ⟨_, rfl, hL, hS⟩ ?_ ?_⟩
  · rintro i σ H1 hi ⟨y, rfl, g1, g2⟩
    walk_at "rd"
    refine ⟨tyL g1, ?_⟩
    walk_at "rd"
    refine r_I (by show 0 ≤ 6 * mm8 c - 6 + (i : Int) * (-6); rcases hm with e | e | e <;> rw [e] at hi ⊢ <;> (have : (i : Nat) < _ := hi; omega)) ?_
    walk_at "rd"
    refine r_appK g1 ?_ fun H5 hL5 f5 => ?_
    · refine Nat.lt_of_le_of_lt (m := 4) ?_ (by decide)
      rw [List.length_map]
      exact Nat.le_trans (List.length_take_le' _ _) (len_enc1 c).2
    · refine ⟨_, rfl, ?_, fun b u z => ?_⟩
      · rw [hL5, map_snoc, long_step c0 hi]
      · by_cases e : b = l
        · rw [e, hl] at z
          cases z
        · rw [f5 b e]
          exact g2 b u z
  · rintro σ H1 ⟨y, rfl, g1, g2⟩
    rw [long_all c0] at g1
    walk_at "rd"
    exact h l H1 hl g1 g2
theorem ok_encode (F : FunD K "encode" "encode" (defArgs s_encode) (defBody s_encode) (defScope s_encode) [] [] (glAd "encode" K) fd) (m : mg "encode" = some (.ref (glAd "encode" K))) (nb : Nm K mg) (c__encode_long : Cal P w K mg base 1 "_encode_long" (sp__encode_long K) []) : Cal P w K mg base 2 "encode" (sp_encode K) [] := by
  refine calD F m sc_encode (fun _ _ _ _ _ _ us hl => match us, hl with | [_], _ => rfl) len1 (fun cdv A outer s H vs Q E hr h => ⟨_, (pss_cons (ps_set (i := 1) sc_encode.nd rfl (Or.inl rfl) (pe_lst pa_nil))
    (pss_cons (ps_for PassesOwn.never rfl (pi_or (pi_list (pv 0)) (pi_tup (pv 0))) (pg_name (i := 2) sc_encode.nd rfl (Or.inl rfl))
    (pss_one (ps_if (pt_cmpR op_lt (pv 2) pe_int (nomark _))
    (pss_one (ps_expr (pe_bm PySem.F.plainAttrs_list PySem.F.slot_list_append PySem.F.type_list_append mt_append (pv 1) (pa_cons (pv 2) pa_nil))))
    (pss_one (ps_expr (pe_bm PySem.F.plainAttrs_list PySem.F.slot_list_extend PySem.F.type_list_extend mt_extend (pv 1) (pa_cons (pe_c c__encode_long hr (by decide) rfl (pa_cons (pv 2) pa_nil)) pa_nil)))))))
    (pss_one (ps_ret (pv 1))))), ?_⟩)
  obtain ⟨_, rfl, a, cs, rfl, hR, hc, hn, h⟩ := h
  walk_at "rd"
  refine ⟨by show 0 ≤ sizeLine; decide, fun l hl => ?_⟩
  have hL : upd H l (.lst []) l = some (.lst ((encs (cs.take 0)).map V.int)) := upd_same
  have hS := same_upd hl (.lst [])
  generalize upd H l (.lst []) = H0 at hL hS ⊢
  have hR0 := row_same hR hS
  walk_at "rd"
  have ha : ∀ u, H0 a = some u → a ≠ l := fun u z e => by
    have hx : ∃ u, H a = some u := hR.elim (fun h => ⟨_, h⟩) fun h => ⟨_, h⟩
    obtain ⟨u, hu⟩ := hx
    rw [e, hl] at hu
    cases hu
  refine r_eachRow rfl hR0 (fun i σ H' => ∃ y, σ = [some (.ref a), some (.ref l), y] ∧ H' l = some (.lst ((encs (cs.take i)).map V.int)) ∧ ∀ b u, b ≠ l → H0 b = some u → H' b = some u) ⟨_, rfl, hL, fun _ _ _ z => z⟩
    (fun i σ H' p u z => by
      obtain ⟨y, _, _, g⟩ := p
      exact g a u (ha u z) z) ?_ ?_
  · rintro i c σ H1 hi ⟨y, rfl, g1, g2⟩
    have hP := hc c (List.mem_of_getElem? hi)
    have hlen : (encs (cs.take i)).length ≤ 4 * cs.length := by
      have h1 := len_encs (cs.take i)
      have h2 := List.length_take_le' i cs
      omega
    have hi' : i < cs.length := (List.getElem?_eq_some_iff.mp hi).1
    have hlen2 : (encs (cs.take i)).length + 4 ≤ 4 * cs.length := by
      have h1 := len_encs (cs.take i)
      have h2 : (cs.take i).length ≤ i := List.length_take_le _ _
      omega
    walk_at "rd"
    refine r_ite (fun c1 => ?_) (fun c1 => ?_)
    · walk_at "rd"
      refine ⟨tyL g1, ?_⟩
      walk_at "rd"
      refine r_appK g1 (by rw [List.length_map]; omega) fun H5 hL5 f5 => ?_
      refine ⟨_, rfl, ?_, fun b u p z => ?_⟩
      · rw [hL5, map_snoc, ints_step hi, encs_snoc, enc_low c1]
      · rw [f5 b p]
        exact g2 b u p z
    · walk_at "rd"
      refine ⟨tyL g1, ?_⟩
      walk_at "rd"
      refine ⟨_, rfl, c, rfl, by omega, hP.2.1, fun p H2 hp hp2 s2 => ?_⟩
      have hpl : p ≠ l := fun e => by
        rw [e, g1] at hp
        cases hp
      refine ⟨l, p, _, _, rfl, rfl, s2 _ _ g1, hp2, ?_, ?_⟩
      · rw [List.length_map, List.length_map]
        have := (len_enc1 c).2
        omega
      · refine ⟨_, rfl, ?_, fun b u q z => ?_⟩
        · rw [upd_same, ints_step hi, encs_snoc, List.map_append]
        · rw [upd_ne q]
          exact s2 _ _ (g2 b u q z)
  · rintro σ H1 ⟨y, rfl, g1, g2⟩
    rw [List.take_length] at g1
    walk_at "rd"
    refine h l H1 hl g1 fun b u z => ?_
    have hbl : b ≠ l := fun e => by
      rw [e, hl] at z
      cases z
    exact g2 b u hbl (hS b u z)
end

local macro_rules | `(tactic| walk_at "ne") => `(tactic| first
  | assumption
  | (apply Ne.symm; assumption)
  | (refine ne_of_none ?_ ?_; rotate_left; assumption; walk_at "hl")
  | (apply Ne.symm; refine ne_of_none ?_ ?_; rotate_left; assumption; walk_at "hl"))
local macro_rules | `(tactic| walk_at "nm") => `(tactic| first
  | assumption
  | exact nm_nil
  | (refine nm_cons ?_ ?_; walk_at "ne"; walk_at "nm")
  | (refine nm_app ?_ ?_ <;> walk_at "nm"))
local macro_rules | `(tactic| walk_at "hl") => `(tactic| first
  | assumption
  | exact upd_same
  | (refine (upd_ne ?_).trans ?_; walk_at "ne"; walk_at "hl")
  | (refine Eb.get (by assumption) ?_ ?_; walk_at "ne"; walk_at "hl")
  | (refine Ch.get (by assumption) ?_ ?_; walk_at "nm"; walk_at "hl")
  | (refine Same.get (by assumption) ?_; walk_at "hl")
  | (refine Ch.tup (by assumption) ?_; walk_at "hl"))
local macro_rules | `(tactic| walk_at "ms") => `(tactic| first
  | assumption
  | exact ms_nil
  | (refine ms_cons ?_ ?_; (first | (left; simp; done) | (right; assumption)); walk_at "ms")
  | (refine ms_app ?_ ?_ <;> walk_at "ms"))
local macro_rules | `(tactic| walk_at "ch") => `(tactic| first
  | assumption
  | exact Ch.refl
  | (refine Ch.eb (by assumption) (by simp; done) ?_; walk_at "ch")
  | (refine Ch.ebn (by assumption) (by assumption) ?_; walk_at "ch")
  | (refine Ch.ch (by assumption) ?_ ?_; walk_at "ms"; walk_at "ch")
  | (refine Ch.same (by assumption) ?_; walk_at "ch"))
local macro_rules | `(tactic| walk_at "rh1") => `(tactic| first
  | (with_reducible refine r_seq ?_)
  | (with_reducible refine r_asg ?_)
  | (with_reducible refine r_name ?_)
  | ((with_reducible apply r_var); (· rfl))
  | (with_reducible refine r_c ?_)
  | (with_reducible refine r_op ?_)
  | (with_reducible refine r_I0 ?_)
  | (with_reducible refine r_eqI ?_)
  | (with_reducible refine r_neI ?_)
  | (with_reducible refine r_eqS ?_)
  | (with_reducible refine r_neS ?_)
  | (with_reducible refine r_cons ?_)
  | (with_reducible refine r_nil ?_)
  | (with_reducible refine r_test ?_)
  | (with_reducible refine r_B ?_)
  | (with_reducible refine r_bl ?_)
  | (with_reducible refine r_ret ?_)
  | (with_reducible refine r_drop ?_)
  | (with_reducible refine r_un ?_)
  | (with_reducible refine r_U ?_)
  | (with_reducible refine r_CB ?_)
  | (with_reducible refine r_call ?_)
  | (with_reducible refine r_retN ?_)
  | (with_reducible refine r_next ?_)
  | (with_reducible refine r_brk ?_)
  | (with_reducible refine r_and ?_)
  | (with_reducible refine r_or ?_)
  | (with_reducible refine r_not ?_)
  | (with_reducible refine r_andV ?_)
  | (with_reducible refine r_orV ?_)
  | (with_reducible refine r_notV ?_)
  | (with_reducible refine r_chain ?_)
  | (with_reducible refine r_iteF ?_)
  | (with_reducible refine r_iteT ?_)
  | (with_reducible refine r_iteNT ?_)
  | (with_reducible refine r_iteNF ?_)
  | ((with_reducible apply r_I); (· first | decide | exact ⟨by decide, by decide⟩ | exact .inr ⟨by decide, by decide⟩ | exact .inl ⟨by decide, by decide⟩ | exact ⟨by decide, by decide, by decide⟩))
  | (with_reducible refine r_bm ?_)
  | (with_reducible refine r_bm0 ?_)
  | (with_reducible refine r_sub ?_)
  | (with_reducible refine r_yes ?_)
  | (with_reducible refine r_fld ?_)
  | (with_reducible refine r_sfld ?_)
  | (with_reducible refine r_meth ?_)
  | (with_reducible refine r_prop ?_)
  | (with_reducible refine r_make ?_)
  | (with_reducible refine r_gcons ?_)
  | (with_reducible refine r_gnil ?_)
  | (with_reducible refine r_rfl ?_)
  | (with_reducible refine r_for ?_)
  | (with_reducible refine r_rng1 ?_)
  | (with_reducible refine r_int1 ?_)
  | (with_reducible refine r_abs ?_)
  | (with_reducible refine r_tup ?_)
  | (with_reducible refine r_lst ?_))
local macro_rules | `(tactic| walk_at "rh1") => `(tactic| first
  | (with_reducible refine r_sl ?_)
  | (with_reducible refine r_part ?_)
  | (with_reducible refine r_some ?_)
  | (with_reducible refine r_nopart ?_)
  | (with_reducible refine r_rng2 ?_)
  | (with_reducible refine r_rng3 ?_)
  | (with_reducible refine r_itL ?_)
  | (with_reducible refine r_itT ?_)
  | (with_reducible refine r_lcT ?_)
  | (with_reducible refine r_lcL ?_)
  | (with_reducible refine r_lc0 ?_))

local macro_rules | `(tactic| walk_at "fcl") => `(tactic| first | exact Nm.cl_Counted (by assumption) | exact Nm.cl_Utf8 (by assumption) | exact Nm.cl_Begun (by assumption) | exact Nm.cl_BencodeLoose (by assumption) | exact Nm.cl_Numeral (by assumption) | exact Nm.cl_BencodeNumber (by assumption) | exact Nm.cl_BencodeKey (by assumption) | exact Nm.cl_Nest (by assumption) | exact Nm.cl_BencodeScanner (by assumption) | exact Nm.cl_Frame (by assumption) | exact Nm.cl_Builder (by assumption))
local macro_rules | `(tactic| walk_at "fna") => `(tactic| first | exact Nm.na_Counted_is_done (by assumption) | exact Nm.na_Counted_can_end (by assumption) | exact Nm.na_Counted_has_begun (by assumption) | exact Nm.na_Counted_octets (by assumption) | exact Nm.na_Counted__missing (by assumption) | exact Nm.na_Utf8_points (by assumption) | exact Nm.na_Utf8__missing (by assumption) | exact Nm.na_Utf8__worth (by assumption) | exact Nm.na_Utf8__least (by assumption) | exact Nm.na_Utf8__most (by assumption) | exact Nm.na_Begun__many (by assumption) | exact Nm.na_BencodeLoose__begun (by assumption) | exact Nm.na_Numeral__sign (by assumption) | exact Nm.na_Numeral__worth (by assumption) | exact Nm.na_Numeral__scale (by assumption) | exact Nm.na_Numeral__exponent_sign (by assumption) | exact Nm.na_Numeral__exponent (by assumption) | exact Nm.na_BencodeNumber_is_done (by assumption) | exact Nm.na_BencodeNumber__numeral (by assumption) | exact Nm.na_BencodeNumber__state (by assumption) | exact Nm.na_BencodeKey_is_done (by assumption) | exact Nm.na_BencodeKey__counted (by assumption) | exact Nm.na_BencodeKey__utf8 (by assumption) | exact Nm.na_Nest__levels (by assumption) | exact Nm.na_BencodeScanner__place (by assumption) | exact Nm.na_BencodeScanner__wanted (by assumption) | exact Nm.na_BencodeScanner__nest (by assumption) | exact Nm.na_BencodeScanner__token (by assumption) | exact Nm.na_Frame_kind (by assumption) | exact Nm.na_Frame_key (by assumption) | exact Nm.na_Frame_inside (by assumption) | exact Nm.na_Builder_is_done (by assumption) | exact Nm.na_Builder_value (by assumption) | exact Nm.na_Builder__frames (by assumption))
local macro_rules | `(tactic| walk_at "flk") => `(tactic| first | exact lk_Counted_is_done | exact lk_Counted_can_end | exact lk_Counted_has_begun | exact lk_Counted_octets | exact lk_Counted__missing | exact lk_Utf8_points | exact lk_Utf8__missing | exact lk_Utf8__worth | exact lk_Utf8__least | exact lk_Utf8__most | exact lk_Begun__many | exact lk_BencodeLoose__begun | exact lk_Numeral__sign | exact lk_Numeral__worth | exact lk_Numeral__scale | exact lk_Numeral__exponent_sign | exact lk_Numeral__exponent | exact lk_BencodeNumber_is_done | exact lk_BencodeNumber__numeral | exact lk_BencodeNumber__state | exact lk_BencodeKey_is_done | exact lk_BencodeKey__counted | exact lk_BencodeKey__utf8 | exact lk_Nest__levels | exact lk_BencodeScanner__place | exact lk_BencodeScanner__wanted | exact lk_BencodeScanner__nest | exact lk_BencodeScanner__token | exact lk_Frame_kind | exact lk_Frame_key | exact lk_Frame_inside | exact lk_Builder_is_done | exact lk_Builder_value | exact lk_Builder__frames)
local macro_rules | `(tactic| walk_at "ffw") => `(tactic| first | exact few_Counted | exact few_Utf8 | exact few_Begun | exact few_BencodeLoose | exact few_Numeral | exact few_BencodeNumber | exact few_BencodeKey | exact few_Nest | exact few_BencodeScanner | exact few_Frame | exact few_Builder)
local macro_rules | `(tactic| walk_at "fpt") => `(tactic| first | exact pt_Counted_is_done | exact pt_Counted_can_end | exact pt_Counted_has_begun | exact pt_Counted_octets | exact pt_Counted__missing | exact pt_Utf8_points | exact pt_Utf8__missing | exact pt_Utf8__worth | exact pt_Utf8__least | exact pt_Utf8__most | exact pt_Begun__many | exact pt_BencodeLoose__begun | exact pt_Numeral__sign | exact pt_Numeral__worth | exact pt_Numeral__scale | exact pt_Numeral__exponent_sign | exact pt_Numeral__exponent | exact pt_BencodeNumber_is_done | exact pt_BencodeNumber__numeral | exact pt_BencodeNumber__state | exact pt_BencodeKey_is_done | exact pt_BencodeKey__counted | exact pt_BencodeKey__utf8 | exact pt_Nest__levels | exact pt_BencodeScanner__place | exact pt_BencodeScanner__wanted | exact pt_BencodeScanner__nest | exact pt_BencodeScanner__token | exact pt_Frame_kind | exact pt_Frame_key | exact pt_Frame_inside | exact pt_Builder_is_done | exact pt_Builder_value | exact pt_Builder__frames)
local macro_rules | `(tactic| walk_at "fno") => `(tactic| first | exact no_Counted_take | exact no_Counted__take_in_count | exact no_Counted_leaf | exact no_Utf8_take | exact no_Utf8__begin | exact no_Utf8__go_on | exact no_Begun_note | exact no_Begun__count | exact no_BencodeLoose_take | exact no_Numeral_negate | exact no_Numeral_negate_exponent | exact no_Numeral_add_digit | exact no_Numeral_add_fraction_digit | exact no_Numeral_add_exponent_digit | exact no_Numeral_pair | exact no_BencodeNumber_take | exact no_BencodeNumber__take_minus | exact no_BencodeNumber__take_digit | exact no_BencodeNumber_leaf | exact no_BencodeKey_take | exact no_BencodeKey_leaf | exact no_Nest_inner | exact no_Nest_grow | exact no_Nest_shrink | exact no_Nest_note_key | exact no_BencodeScanner_step | exact no_BencodeScanner_end | exact no_BencodeScanner__take | exact no_BencodeScanner__end_token | exact no_BencodeScanner__end_value | exact no_BencodeScanner__take_mark | exact no_BencodeScanner__begin_counted | exact no_BencodeScanner__grow | exact no_BencodeScanner__close | exact no_Frame_put | exact no_Frame_built | exact no_Builder_take | exact no_Builder__put)
local macro_rules | `(tactic| walk_at "rf1") => `(tactic| first | (with_reducible refine r_lstE ?_) | (with_reducible refine r_tupE ?_) | (with_reducible refine r_dnwE ?_) | (with_reducible refine r_orT ?_) | (with_reducible refine r_din ?_) | (with_reducible refine r_dput ?_) | walk_at "rd1" | ((with_reducible apply r_fget); walk_at "hl"; walk_at "fcl"; walk_at "fna"; walk_at "flk") | ((with_reducible apply r_mget); walk_at "hl"; walk_at "fno") | ((with_reducible apply r_pget); walk_at "hl"))
local macro_rules | `(tactic| walk_at "rf") => `(tactic| repeat (walk_at "rf1"))
local macro_rules | `(tactic| walk_at "rg1") => `(tactic| first | (with_reducible refine r_lstE ?_) | (with_reducible refine r_tupE ?_) | (with_reducible refine r_dnwE ?_) | (with_reducible refine r_orT ?_) | (with_reducible refine r_din ?_) | (with_reducible refine r_dput ?_) | walk_at "ri1" | ((with_reducible apply r_fget); walk_at "hl"; walk_at "fcl"; walk_at "fna"; walk_at "flk") | ((with_reducible apply r_mget); walk_at "hl"; walk_at "fno") | ((with_reducible apply r_pget); walk_at "hl"))
local macro_rules | `(tactic| walk_at "rk1") => `(tactic| first | (with_reducible refine r_lstE ?_) | (with_reducible refine r_tupE ?_) | (with_reducible refine r_dnwE ?_) | (with_reducible refine r_orT ?_) | (with_reducible refine r_din ?_) | (with_reducible refine r_dput ?_) | walk_at "rh1" | ((with_reducible apply r_fget); walk_at "hl"; walk_at "fcl"; walk_at "fna"; walk_at "flk") | ((with_reducible apply r_mget); walk_at "hl"; walk_at "fno") | ((with_reducible apply r_pget); walk_at "hl"))
local macro_rules | `(tactic| walk_at "rk") => `(tactic| repeat (walk_at "rk1"))
local macro_rules | `(tactic| walk_at "rg") => `(tactic| repeat (walk_at "rg1"))
local macro_rules | `(tactic| walk_at "fs") => `(tactic| (apply r_fsetE; walk_at "hl"; walk_at "fcl"; walk_at "fna"; walk_at "ffw"; walk_at "fpt"))

/-! ### a counted row of octets -/





def isDg (o : Int) : Bool := decide (48 ≤ o) && decide (o ≤ 57)
def optV : Option Int → V
  | some i => .int i
  | none => .non
theorem optV_some (i : Int) : optV (some i) = .int i := rfl
theorem optV_none : optV none = .non := rfl
def sp_is_digit : Sp := sp1 fun a H Q _ => ∃ o : Int, a = .int o ∧ Q (.bl (isDg o)) H
structure Ct where
  d : Bool
  b : Bool
  os : List Int
  m : Option Int
def CtAt (K : Frg) (H : Hp) (a l : Addr) (s : Ct) : Prop := ∃ dx, H a = some (.ins (C_Counted K) dx (fs_Counted (.bl s.d) (.bl false) (.bl s.b) (.ref l) (optV s.m))) ∧ H l = some (.lst (s.os.map V.int)) ∧ a ≠ l
def ct0 : Ct := ⟨false, false, [], none⟩
def ctCount (s : Ct) (o : Int) : Bool × Ct :=
  if o = 58 ∧ s.m ≠ none then (true, { s with b := true, d := decide (s.m.getD 0 = 0) }) else if isDg o = false ∨ s.m = some 0 then (false, s) else (true, { s with m := some ((s.m.getD 0) * 10 + o - 48) })
def ctTake (s : Ct) (o : Int) : Bool × Ct :=
  if s.b = true then (true, { s with os := s.os ++ [o], m := some (s.m.getD 0 - 1), d := decide (s.m.getD 0 - 1 = 0) }) else ctCount s o
def CtOk (s : Ct) : Prop := s.b = true → ∃ k, s.m = some k
theorem CtAt.get {K : Frg} {H H' : Hp} {a l : Addr} {s : Ct} {o : List Addr} (h : CtAt K H a l s) (c : Ch o H H') (na : a ∉ o) (nl : l ∉ o) : CtAt K H' a l s := by
  obtain ⟨dx, h1, h2, h3⟩ := h
  exact ⟨dx, c.get na h1, c.get nl h2, h3⟩
def sp_Counted___init__ (K : Frg) : Sp := sp1 fun p H Q _ => ∃ a dx, p = .ref a ∧ H a = some (.ins (C_Counted K) dx []) ∧ ∀ l H', H l = none → CtAt K H' a l ct0 → Ch [a] H H' → Q .non H'
def sp_Counted__take_in_count (K : Frg) : Sp := sp2 fun p o H Q _ => ∃ a l s b, p = .ref a ∧ o = .int b ∧ CtAt K H a l s ∧ ∀ H', CtAt K H' a l (ctCount s b).2 → Ch [a, l] H H' → Q (.bl (ctCount s b).1) H'
def sp_Counted_take (K : Frg) : Sp := sp2 fun p o H Q _ => ∃ a l s b, p = .ref a ∧ o = .int b ∧ CtAt K H a l s ∧ CtOk s ∧ s.os.length < sizeLine ∧ ∀ H', CtAt K H' a l (ctTake s b).2 → Ch [a, l] H H' → Q (.bl (ctTake s b).1) H'
def sp_Counted_leaf (K : Frg) : Sp := sp1 fun p H Q _ => ∃ a l s, p = .ref a ∧ CtAt K H a l s ∧ ∀ p H', Tp H' p (.tuple [.str "bytes", kd s.os]) → Same H H' → Q p H'
section
variable {P : Program} {w : World} {K : PySem.W.Frag} {mg : Str → Option Value} {base : Heap} {f : Addr} {fd : FuncData}
theorem ok_is_digit (F : FunD K "is_digit" "is_digit" (defArgs s_is_digit) (defBody s_is_digit) (defScope s_is_digit) [] [] (glAd "is_digit" K) fd) (m : mg "is_digit" = some (.ref (glAd "is_digit" K))) (nb : Nm K mg) : Cal P w K mg base 1 "is_digit" sp_is_digit [] := by
  refine calD F m sc_is_digit (fun _ _ _ _ _ _ us hl => match us, hl with | [_], _ => rfl) len1 (fun cdv A outer s H vs Q E hr h => ⟨_, (pss_one (ps_ret (pe_chain op_le op_le (pe_gc rfl nb.g_ZERO_counted) (pv 0) (pe_gc rfl nb.g_NINE)))), ?_⟩)
  obtain ⟨_, rfl, o, rfl, h⟩ := h
  walk_at "rd"
  unfold isDg at h
  refine r_ite (fun c => ?_) (fun c => ?_)
  · walk_at "rd"
    rw [decide_eq_true c] at h
    exact h
  · rw [decide_eq_false c] at h
    exact h
theorem ok_Counted___init__ (F : FunD K "__init__" "Counted.__init__" (defArgs s_Counted___init__) (defBody s_Counted___init__) (defScope s_Counted___init__) [] [] (meAd "Counted" "__init__" K) fd) (nb : Nm K mg) : Mak P w K mg base 1 "Counted" (C_Counted K) (sp_Counted___init__ K) [] := by
  refine makD F nb.mk_Counted nb.g_Counted sc_Counted___init__ (fun _ _ _ _ _ _ us hl => match us, hl with | [_], _ => rfl) len1 (fun cdv A outer s H vs Q E hr h => ⟨_, (pss_cons (ps_fld (pv 0) pe_bl rfl)
    (pss_cons (ps_fld (pv 0) pe_bl rfl)
    (pss_cons (ps_fld (pv 0) pe_bl rfl)
    (pss_cons (ps_fld (pv 0) (pe_lstE pa_nil) rfl)
    (pss_one (ps_fld (pv 0) pe_non rfl)))))), ?_⟩)
  obtain ⟨_, rfl, a, dx, rfl, hA, h⟩ := h
  walk_at "rf"
  refine r_fsetE hA nb.cl_Counted nb.na_Counted_is_done (by decide) (in_Counted_is_done) fun H1 hA1 f1 => ?_
  walk_at "rf"
  refine r_fsetE hA1 nb.cl_Counted nb.na_Counted_can_end (by simp) (in_Counted_can_end) fun H2 hA2 f2 => ?_
  walk_at "rf"
  refine r_fsetE hA2 nb.cl_Counted nb.na_Counted_has_begun (by simp) (in_Counted_has_begun) fun H3 hA3 f3 => ?_
  walk_at "rf"
  refine ⟨by show 0 ≤ sizeLine; decide, fun l H4 nl hL4 s4 => ?_⟩
  have hne : a ≠ l := Same.ne nl hA3
  have c3 : Ch [a] H H3 := by walk_at "ch"
  walk_at "rf"
  refine r_fsetE (s4 _ _ hA3) nb.cl_Counted nb.na_Counted_octets (by simp) (in_Counted_octets) fun H5 hA5 f5 => ?_
  walk_at "rf"
  refine r_fsetE hA5 nb.cl_Counted nb.na_Counted__missing (by simp) (in_Counted__missing) fun H6 hA6 f6 => ?_
  exact h l H6 ((c3.fresh nl).resolve_left (by simp [Ne.symm hne])) ⟨dx, hA6, by walk_at "hl", hne⟩ (by walk_at "ch")
theorem ok_Counted__take_in_count (F : FunD K "_take_in_count" "Counted._take_in_count" (defArgs s_Counted__take_in_count) (defBody s_Counted__take_in_count) (defScope s_Counted__take_in_count) [] [] (meAd "Counted" "_take_in_count" K) fd) (nb : Nm K mg) (c_is_digit : Cal P w K mg base 1 "is_digit" sp_is_digit []) : Met P w K mg base 2 (C_Counted K) "_take_in_count" (sp_Counted__take_in_count K) [] := by
  refine metD F nb.cl_Counted nb.me_Counted__take_in_count sc_Counted__take_in_count (fun _ _ _ _ _ _ us hl => match us, hl with | [_, _], _ => rfl) len2 (fun cdv A outer s H vs Q E hr h => ⟨_, (pss_cons (ps_if (PW.pt (pw_and (pt_cmpR op_eq (pv 1) (pe_gc rfl nb.g_COLON) (nomark _)) (pw_and1 (pt_cmpR op_notN (pe_fld (pv 0) rfl) pe_non (nomark _)))))
    (pss_cons (ps_fld (pv 0) pe_bl rfl)
    (pss_cons (ps_fld (pv 0) (pe_cmpR op_eq (pe_fld (pv 0) rfl) pe_int (nomark _)) rfl)
    (pss_one (ps_ret pe_bl))))
    pss_nil)
    (pss_cons (ps_if (PW.pt (pw_or (pt_not (pt_val (pe_c c_is_digit hr (by decide) rfl (pa_cons (pv 1) pa_nil)))) (pw_or1 (pt_cmpR op_eq (pe_fld (pv 0) rfl) pe_int (nomark _)))))
    (pss_one (ps_ret pe_bl))
    pss_nil)
    (pss_cons (ps_fld (pv 0) (pe_op op_sub (pe_op op_add (pe_op op_mul (pe_orT (pe_fld (pv 0) rfl) (pe_one pe_int)) pe_int) (pv 1)) (pe_gc rfl nb.g_ZERO_counted)) rfl)
    (pss_one (ps_ret pe_bl))))), ?_⟩)
  obtain ⟨_, _, rfl, a, l, s, b, rfl, rfl, ⟨dx, hA, hL, ne⟩, h⟩ := h
  have hdig : ∀ R : VK, R (.bl (isDg b)) H → sp_is_digit ([.int b] ++ []) H R C8.E0 := fun R q => ⟨_, rfl, b, rfl, q⟩
  have first : ∀ R : Bool → Hp → Prop, R (decide (b = 58 ∧ s.m ≠ none)) H → (tAnd (tTest (tOp rEq (tVar 1) (tC (.int 58)))) (tTest (tOp (fun x y H Q => y = .non ∧ Q (.bl (!decide (x = .non))) H) (tFld K (tVar 0) "_missing") (tC V.non)))) (L2.start ["self", "octet"] [V.ref a, V.int b]) H R := by
    intro R q
    walk_at "rf"
    refine r_ite (fun c => ?_) (fun c => ?_)
    · walk_at "rf"
      have e : decide (b = 58 ∧ s.m ≠ none) = !decide (optV s.m = .non) := by
        cases s.m <;> simp [optV, c]
      rw [e] at q
      exact q
    · rw [decide_eq_false (fun z => c z.1)] at q
      exact q
  walk_at "rg"
  refine r_ifB (decide (b = 58 ∧ s.m ≠ none)) (fun R hR => first R hR) ?_
  refine r_ite (fun c => ?_) (fun c => ?_)
  · obtain ⟨k, hk⟩ := Option.ne_none_iff_exists'.mp c.2
    have e : ctCount s b = (true, { s with b := true, d := decide (k = 0) }) := by simp [ctCount, c.1, hk]
    rw [e] at h
    rw [hk, optV_some] at hA
    walk_at "rf"
    walk_at "fs"
    intro H1 hA1 f1
    walk_at "rf"
    walk_at "fs"
    intro H2 hA2 f2
    walk_at "rf"
    exact h H2 ⟨dx, by rw [hk]; exact hA2, by walk_at "hl", ne⟩ (by walk_at "ch")
  have second : ∀ R : Bool → Hp → Prop, R (decide (isDg b = false ∨ s.m = some 0)) H → (tOr (tNot (tB (tCall sp_is_digit [] C8.E0 (tCons (tVar 1) tNil)))) (tTest (tOp rEq (tFld K (tVar 0) "_missing") (tC (.int 0))))) (L2.start ["self", "octet"] [V.ref a, V.int b]) H R := by
    intro R q
    walk_at "rf"
    refine ⟨_, rfl, b, rfl, _, rfl, ?_⟩
    cases hd : isDg b with
    | false =>
      rw [decide_eq_true (.inl hd)] at q
      walk_at "rf"
      exact q
    | true =>
      walk_at "rf"
      have e : decide (isDg b = false ∨ s.m = some 0) = decide (optV s.m = .int 0) := by
        rw [hd]
        cases s.m <;> simp [optV]
      rw [e] at q
      refine ⟨by cases s.m <;> rfl, ?_⟩
      walk_at "rf"
      exact q
  walk_at "rg"
  refine r_ifB (decide (isDg b = false ∨ s.m = some 0)) (fun R hR => second R hR) ?_
  refine r_ite (fun c2 => ?_) (fun c2 => ?_)
  · have e : ctCount s b = (false, s) := by
      unfold ctCount
      rw [if_neg c, if_pos c2]
    rw [e] at h
    walk_at "rf"
    exact h H ⟨dx, hA, hL, ne⟩ Ch.refl
  have e : ctCount s b = (true, { s with m := some ((s.m.getD 0) * 10 + b - 48) }) := by
    unfold ctCount
    rw [if_neg c, if_neg c2]
  rw [e] at h
  walk_at "rf"
  have go : ∀ k : Int, s.m.getD 0 = k → rI0 (fun x y => .int (x + y)) (.int (k * 10)) (.int b) H fun x H1 => True := fun k _ => ⟨_, _, rfl, rfl, trivial⟩
  cases hm : s.m with
  | none =>
    refine ⟨false, rfl, ?_⟩
    walk_at "rf"
    walk_at "fs"
    intro H1 hA1 f1
    walk_at "rf"
    rw [hm] at h
    exact h H1 ⟨dx, hA1, by walk_at "hl", ne⟩ (by walk_at "ch")
  | some k =>
    have hk0 : k ≠ 0 := fun z => c2 (.inr (by rw [hm, z]))
    refine ⟨true, by show true = (k != 0); simp [hk0], ?_⟩
    rw [optV_some]
    walk_at "rf"
    walk_at "fs"
    intro H1 hA1 f1
    walk_at "rf"
    rw [hm] at h
    exact h H1 ⟨dx, hA1, by walk_at "hl", ne⟩ (by walk_at "ch")
theorem ok_Counted_take (F : FunD K "take" "Counted.take" (defArgs s_Counted_take) (defBody s_Counted_take) (defScope s_Counted_take) [] [] (meAd "Counted" "take" K) fd) (nb : Nm K mg) (m_Counted__take_in_count : Met P w K mg base 2 (C_Counted K) "_take_in_count" (sp_Counted__take_in_count K) []) : Met P w K mg base 3 (C_Counted K) "take" (sp_Counted_take K) [] := by
  refine metD F nb.cl_Counted nb.me_Counted_take sc_Counted_take (fun _ _ _ _ _ _ us hl => match us, hl with | [_, _], _ => rfl) len2 (fun cdv A outer s H vs Q E hr h => ⟨_, (pss_cons (ps_if (pt_not (pt_val (pe_fld (pv 0) rfl)))
    (pss_one (ps_ret (pe_mt m_Counted__take_in_count hr (by decide) (pv 0) (pa_cons (pv 1) pa_nil))))
    pss_nil)
    (pss_cons (ps_expr (pe_bm PySem.F.plainAttrs_list PySem.F.slot_list_append PySem.F.type_list_append mt_append (pe_fld (pv 0) rfl) (pa_cons (pv 1) pa_nil)))
    (pss_cons (ps_fld (pv 0) (pe_op op_sub (pe_fld (pv 0) rfl) pe_int) rfl)
    (pss_cons (ps_fld (pv 0) (pe_cmpR op_eq (pe_fld (pv 0) rfl) pe_int (nomark _)) rfl)
    (pss_one (ps_ret pe_bl)))))), ?_⟩)
  obtain ⟨_, _, rfl, a, l, s, b, rfl, rfl, hC, hok, hlen, h⟩ := h
  obtain ⟨dx, hA, hL, ne⟩ := id hC
  walk_at "rf"
  unfold ctTake at h
  cases hb : s.b with
  | false =>
    rw [hb, if_neg Bool.false_ne_true] at h
    walk_at "rf"
    exact ⟨_, _, rfl, a, l, s, b, rfl, rfl, hC, h⟩
  | true =>
    obtain ⟨k, hk⟩ := hok hb
    rw [hb, if_pos rfl, hk] at h
    rw [hk, hb, optV_some] at hA
    walk_at "rf"
    refine ⟨tyL hL, ?_⟩
    walk_at "rf"
    refine r_appE hL (by rw [List.length_map]; exact hlen) fun H1 hL1 f1 => ?_
    have hA1 := f1.get ne hA
    walk_at "rf"
    walk_at "fs"
    intro H2 hA2 f2
    walk_at "rf"
    walk_at "fs"
    intro H3 hA3 f3
    walk_at "rf"
    exact h H3 ⟨dx, hA3, by rw [← map_snoc]; walk_at "hl", ne⟩ (by walk_at "ch")
theorem ok_Counted_leaf (F : FunD K "leaf" "Counted.leaf" (defArgs s_Counted_leaf) (defBody s_Counted_leaf) (defScope s_Counted_leaf) [] [] (meAd "Counted" "leaf" K) fd) (nb : Nm K mg) : Met P w K mg base 1 (C_Counted K) "leaf" (sp_Counted_leaf K) [] := by
  refine metD F nb.cl_Counted nb.me_Counted_leaf sc_Counted_leaf (fun _ _ _ _ _ _ us hl => match us, hl with | [_], _ => rfl) len1 (fun cdv A outer s H vs Q E hr h => ⟨_, (pss_one (ps_ret (pe_tupE (pa_cons pe_str (pa_cons (pe_callTy call_tuple_ofE (by rfl) nb.tuple (by decide +kernel) (pa_cons (pe_fld (pv 0) rfl) pa_nil)) pa_nil))))), ?_⟩)
  obtain ⟨_, rfl, a, l, s, rfl, ⟨dx, hA, hL, ne⟩, h⟩ := h
  walk_at "rf"
  refine r_toT (SqL.of hL) fun t H1 nt g1 s1 => ?_
  walk_at "rf"
  refine ⟨by show 2 ≤ sizeLine; decide, fun q H2 nq g2 s2 => ?_⟩
  exact h (.ref q) H2 (.tup g2 (.cons (.str _) (.cons (tp_kd (s2 _ _ g1)) .nil))) (s1.trans s2)
end

/-! ### the levels around a place -/





structure Lv where
  m : Bool
  ks : List (List Int)
def kindV : List Lv → V
  | [] => .non
  | l :: _ => .str (kindOf_ l.m)
def ikey (k : List Int) : List Key := k.map Sum.inl
def ktab (ks : List (List Int)) : List (List Key × V) := ks.map fun k => (ikey k, V.bl true)
def LvAt (H : Hp) : List (Addr × Addr) → List Lv → Prop
  | [], [] => True
  | d :: ds, l :: lv => H d.1 = some (.tup [.str (kindOf_ l.m), .ref d.2]) ∧ H d.2 = some (.dT (ktab l.ks)) ∧ LvAt H ds lv
  | _, _ => False
def nsOwn (n ll : Addr) (ds : List (Addr × Addr)) : List Addr := n :: ll :: ds.map (·.2)
def NsAt (K : Frg) (H : Hp) (n ll : Addr) (ds : List (Addr × Addr)) (lv : List Lv) : Prop := (∃ dx, H n = some (.ins (C_Nest K) dx (fs_Nest (.ref ll)))) ∧ H ll = some (.lst (ds.reverse.map fun d => V.ref d.1)) ∧ LvAt H ds lv ∧ (nsOwn n ll ds).Nodup
theorem LvAt.len {H : Hp} : ∀ {ds : List (Addr × Addr)} {lv : List Lv}, LvAt H ds lv → ds.length = lv.length
  | [], [], _ => rfl
  | _ :: _, _ :: _, h => congrArg (· + 1) (LvAt.len h.2.2)
  | [], _ :: _, h => h.elim
  | _ :: _, [], h => h.elim
theorem LvAt.get {H H' : Hp} {o : List Addr} (c : Ch o H H') : ∀ {ds : List (Addr × Addr)} {lv : List Lv}, LvAt H ds lv → (∀ x ∈ ds.map (·.2), x ∉ o) → LvAt H' ds lv
  | [], [], _, _ => trivial
  | d :: ds, l :: lv, h, n => ⟨c.tup h.1, c.get (n _ (List.mem_cons_self ..)) h.2.1, LvAt.get c h.2.2 fun x hx => n x (List.mem_cons_of_mem _ hx)⟩
  | [], _ :: _, h, _ => h.elim
  | _ :: _, [], h, _ => h.elim
theorem NsAt.get {K : Frg} {H H' : Hp} {n ll : Addr} {ds : List (Addr × Addr)} {lv : List Lv} {o : List Addr} (h : NsAt K H n ll ds lv) (c : Ch o H H') (d : ∀ x ∈ nsOwn n ll ds, x ∉ o) : NsAt K H' n ll ds lv := by
  obtain ⟨⟨dx, h1⟩, h2, h3, h4⟩ := h
  exact ⟨⟨dx, c.get (d _ (by simp [nsOwn])) h1⟩, c.get (d _ (by simp [nsOwn])) h2, h3.get c fun x hx => d x (List.mem_cons_of_mem _ (List.mem_cons_of_mem _ hx)), h4⟩
theorem kv_ikey (k : List Int) : (ikey k).map kV = k.map V.int := by
  unfold ikey
  rw [List.map_map]
  rfl
theorem ikey_inj : ∀ {a b : List Int}, ikey a = ikey b → a = b
  | [], [], _ => rfl
  | [], _ :: _, h => by cases h
  | _ :: _, [], h => by cases h
  | x :: a, y :: b, h => by
    injection h with h1 h2
    rw [Sum.inl.inj h1, ikey_inj h2]
theorem ktab_get (k : List Int) : ∀ ks : List (List Int), (valV (ktab ks) (ikey k)).isSome = decide (k ∈ ks)
  | [] => rfl
  | x :: ks => by
    show (valV ((ikey x, V.bl true) :: ktab ks) (ikey k)).isSome = _
    by_cases c : x = k
    · subst c
      rw [valV_pos rfl]
      simp
    · rw [valV_neg (fun q => c (ikey_inj q)), ktab_get k ks]
      simp [Ne.symm c]
theorem ktab_put {k : List Int} {ks : List (List Int)} (h : k ∉ ks) : putK (ktab ks) (ikey k) (.bl true) = ktab (ks ++ [k]) := by
  unfold putK
  rw [valV_any, ktab_get, decide_eq_false h]
  unfold ktab
  rw [List.map_append]
  rfl
theorem at_last {xs : List V} {y : V} : atI (xs ++ [y]) (-1) = some y := by
  unfold atI ixN
  rw [if_neg (by decide), List.length_append]
  show ((if -((xs.length + 1 : Nat) : Int) ≤ -1 then some ((-1 : Int) + ((xs.length + 1 : Nat) : Int)).toNat else none).bind fun j => (xs ++ [y])[j]?) = _
  rw [if_pos (by omega), show ((-1 : Int) + ((xs.length + 1 : Nat) : Int)).toNat = xs.length by omega]
  simp
theorem rev_map_snoc (d : Addr × Addr) (ds : List (Addr × Addr)) : ((d :: ds).reverse.map fun d => V.ref d.1) = (ds.reverse.map fun d => V.ref d.1) ++ [V.ref d.1] := by
  rw [List.reverse_cons, List.map_append]
  rfl
def sp_Nest___init__ (K : Frg) : Sp := sp1 fun p H Q _ => ∃ a dx, p = .ref a ∧ H a = some (.ins (C_Nest K) dx []) ∧ ∀ l H', H l = none → NsAt K H' a l [] [] → Ch [a] H H' → Q .non H'
def sp_Nest_inner (K : Frg) : Sp := sp1 fun p H Q _ => ∃ n ll ds lv, p = .ref n ∧ NsAt K H n ll ds lv ∧ lv.length ≤ 1000 ∧ Q (kindV lv) H
def sp_Nest_grow (K : Frg) : Sp := sp2 fun p o H Q _ => ∃ n ll ds lv m, p = .ref n ∧ o = .str (kindOf_ m) ∧ NsAt K H n ll ds lv ∧ lv.length ≤ 24 ∧
  (lv.length = 24 → Q (.bl false) H) ∧ (lv.length ≠ 24 → ∀ d H', H d.1 = none → H d.2 = none → NsAt K H' n ll (d :: ds) (⟨m, []⟩ :: lv) → Ch (nsOwn n ll ds) H H' → Q (.bl true) H')
def sp_Nest_shrink (K : Frg) : Sp := sp1 fun p H Q _ => ∃ n ll d ds l lv, p = .ref n ∧ NsAt K H n ll (d :: ds) (l :: lv) ∧ ∀ H', NsAt K H' n ll ds lv → Ch (nsOwn n ll (d :: ds)) H H' → Q .non H'
def sp_Nest_note_key (K : Frg) : Sp := sp2 fun p o H Q _ => ∃ n ll d ds l lv b k, p = .ref n ∧ o = .ref b ∧ H b = some (.tup (k.map V.int)) ∧ NsAt K H n ll (d :: ds) (l :: lv) ∧ l.ks.length < sizeLine ∧
  (k ∈ l.ks → Q (.bl false) H) ∧ (k ∉ l.ks → ∀ H', NsAt K H' n ll (d :: ds) (⟨l.m, l.ks ++ [k]⟩ :: lv) → Ch (nsOwn n ll (d :: ds)) H H' → Q (.bl true) H')
section
variable {P : Program} {w : World} {K : PySem.W.Frag} {mg : Str → Option Value} {base : Heap} {f : Addr} {fd : FuncData}
theorem ok_Nest___init__ (F : FunD K "__init__" "Nest.__init__" (defArgs s_Nest___init__) (defBody s_Nest___init__) (defScope s_Nest___init__) [] [] (meAd "Nest" "__init__" K) fd) (nb : Nm K mg) : Mak P w K mg base 1 "Nest" (C_Nest K) (sp_Nest___init__ K) [] := by
  refine makD F nb.mk_Nest nb.g_Nest sc_Nest___init__ (fun _ _ _ _ _ _ us hl => match us, hl with | [_], _ => rfl) len1 (fun cdv A outer s H vs Q E hr h => ⟨_, (pss_one (ps_fld (pv 0) (pe_lstE pa_nil) rfl)), ?_⟩)
  obtain ⟨_, rfl, a, dx, rfl, hA, h⟩ := h
  walk_at "rf"
  refine ⟨by show 0 ≤ sizeLine; decide, fun l H1 nl hL s1 => ?_⟩
  have hne : a ≠ l := Same.ne nl hA
  walk_at "rf"
  refine r_fsetE (s1 _ _ hA) nb.cl_Nest nb.na_Nest__levels (by decide) (in_Nest__levels) fun H2 hA2 f2 => ?_
  exact h l H2 nl ⟨⟨dx, hA2⟩, by walk_at "hl", trivial, by simp [nsOwn, hne]⟩ (by walk_at "ch")
theorem ok_Nest_inner (F : FunD K "inner" "Nest.inner" (defArgs s_Nest_inner) (defBody s_Nest_inner) (defScope s_Nest_inner) [] [] (meAd "Nest" "inner" K) fd) (nb : Nm K mg) : Met P w K mg base 1 (C_Nest K) "inner" (sp_Nest_inner K) [] := by
  refine metD F nb.cl_Nest nb.me_Nest_inner sc_Nest_inner (fun _ _ _ _ _ _ us hl => match us, hl with | [_], _ => rfl) len1 (fun cdv A outer s H vs Q E hr h => ⟨_, (pss_cons (ps_if (pt_not (pt_truth (pe_fld (pv 0) rfl) (by intro _; rfl)))
    (pss_one (ps_ret pe_non))
    pss_nil)
    (pss_one (ps_ret (pe_ix ix_tup (pe_ix ix_list (pe_fld (pv 0) rfl) (pe_un un_neg pe_int) (fun _ _ => rfl)) pe_int (fun _ _ => rfl))))), ?_⟩)
  obtain ⟨_, rfl, n, ll, ds, lv, rfl, ⟨⟨dx, hA⟩, hL, hV, hN⟩, hl, h⟩ := h
  walk_at "rf"
  cases lv with
  | nil =>
    cases ds with
    | cons d ds => exact hV.elim
    | nil =>
      refine ⟨false, .inl ⟨_, SqL.of hL, rfl⟩, ?_⟩
      walk_at "rf"
      exact h
  | cons l lv =>
    cases ds with
    | nil => exact hV.elim
    | cons d ds =>
      rw [rev_map_snoc] at hL
      refine ⟨true, .inl ⟨_, SqL.of hL, ?_⟩, ?_⟩
      · simp
      walk_at "rf"
      refine r_ixL (SqL.of hL) at_last ?_
      walk_at "rf"
      exact r_ixT (SqT.of hV.1) rfl h
theorem ok_Nest_grow (F : FunD K "grow" "Nest.grow" (defArgs s_Nest_grow) (defBody s_Nest_grow) (defScope s_Nest_grow) [] [] (meAd "Nest" "grow" K) fd) (nb : Nm K mg) : Met P w K mg base 1 (C_Nest K) "grow" (sp_Nest_grow K) [] := by
  refine metD F nb.cl_Nest nb.me_Nest_grow sc_Nest_grow (fun _ _ _ _ _ _ us hl => match us, hl with | [_, _], _ => rfl) len2 (fun cdv A outer s H vs Q E hr h => ⟨_, (pss_cons (ps_if (pt_cmpR op_eq (pe_callB call_len_seq (by rfl) nb.len PySem.boot_len (pa_cons (pe_fld (pv 0) rfl) pa_nil)) (pe_gc rfl nb.g_DEEPEST) (nomark _))
    (pss_one (ps_ret pe_bl))
    pss_nil)
    (pss_cons (ps_expr (pe_bm PySem.F.plainAttrs_list PySem.F.slot_list_append PySem.F.type_list_append mt_append (pe_fld (pv 0) rfl) (pa_cons (pe_tupE (pa_cons (pv 1) (pa_cons pe_dnwE pa_nil))) pa_nil)))
    (pss_one (ps_ret pe_bl)))), ?_⟩)
  obtain ⟨_, _, rfl, n, ll, ds, lv, m, rfl, rfl, ⟨⟨dx, hA⟩, hL, hV, hN⟩, hl, h1, h2⟩ := h
  have el : (ds.reverse.map fun d => V.ref d.1).length = lv.length := by rw [List.length_map, List.length_reverse, hV.len]
  walk_at "rf"
  refine ⟨ll, _, rfl, .inl (SqL.of hL), ?_⟩
  rw [el]
  walk_at "rf"
  refine r_ite (fun c => ?_) (fun c => ?_)
  · walk_at "rf"
    exact h1 (by omega)
  walk_at "rf"
  refine ⟨tyL hL, ?_⟩
  walk_at "rf"
  intro e H1 ne hE s1
  walk_at "rf"
  refine ⟨by show 2 ≤ sizeLine; decide, fun t H2 nt hT s2 => ?_⟩
  walk_at "rf"
  refine r_appE (s2 _ _ (s1 _ _ hL)) (by rw [el]; exact small1000 (by omega)) fun H3 hL3 f3 => ?_
  have et : e ≠ t := Same.ne nt hE
  have lt : ll ≠ t := Same.ne nt (s1 _ _ hL)
  have le : ll ≠ e := Same.ne ne hL
  have nt0 : H t = none := s1.free nt
  have c3 : Ch (nsOwn n ll ds) H H3 := by
    refine Ch.eb f3 (by simp [nsOwn]) ?_
    walk_at "ch"
  have hN0 := hN
  unfold nsOwn at hN
  rw [List.nodup_cons] at hN
  have nl : n ≠ ll := fun q => hN.1 (by simp [q])
  have s3 : ∀ x u, x ≠ ll → H x = some u → H3 x = some u := fun x u n z => f3.get n (s2 _ _ (s1 _ _ z))
  walk_at "rf"
  refine h2 (by omega) (t, e) H3 nt0 ne ⟨⟨dx, by walk_at "hl"⟩, by rw [rev_map_snoc]; exact hL3, ⟨by walk_at "hl", by walk_at "hl", ?_⟩, ?_⟩ c3
  · refine hV.get (o := [ll]) (fun x u z m => ?_) fun x hx q => ?_
    · by_cases q : x = ll
      · obtain ⟨xs, rfl⟩ := m (by simp [q])
        rw [q, hL] at z
        cases z
      · exact s3 x u q z
    · have e : x = ll := by simpa using q
      have := List.nodup_cons.mp hN.2
      exact this.1 (by rw [← e]; exact hx)
  · have hd : ∀ x ∈ ds.map (·.2), x ≠ e := by
      intro x hx q
      have : ∀ {ds : List (Addr × Addr)} {lv : List Lv}, LvAt H ds lv → ∀ x ∈ ds.map (·.2), ∃ u, H x = some u := by
        intro ds
        induction ds with
        | nil => intro lv _ x hx; simp at hx
        | cons d ds ih =>
          intro lv h x hx
          cases lv with
          | nil => exact h.elim
          | cons l lv =>
            rcases List.mem_cons.mp hx with q | q
            · exact ⟨_, by rw [q]; exact h.2.1⟩
            · exact ih h.2.2 x q
      obtain ⟨u, hu⟩ := this hV x hx
      rw [q, ne] at hu
      cases hu
    have hn2 := List.nodup_cons.mp hN.2
    show (n :: ll :: e :: ds.map (·.2)).Nodup
    have nn : n ≠ e := Same.ne ne hA
    refine List.nodup_cons.mpr ⟨fun q => ?_, List.nodup_cons.mpr ⟨fun q => ?_, List.nodup_cons.mpr ⟨fun q => hd e q rfl, hn2.2⟩⟩⟩
    · rcases List.mem_cons.mp q with q | q
      · exact nl q
      · rcases List.mem_cons.mp q with q | q
        · exact nn q
        · exact hN.1 (List.mem_cons_of_mem _ q)
    · rcases List.mem_cons.mp q with q | q
      · exact le q
      · exact hn2.1 q
theorem ok_Nest_shrink (F : FunD K "shrink" "Nest.shrink" (defArgs s_Nest_shrink) (defBody s_Nest_shrink) (defScope s_Nest_shrink) [] [] (meAd "Nest" "shrink" K) fd) (nb : Nm K mg) : Met P w K mg base 1 (C_Nest K) "shrink" (sp_Nest_shrink K) [] := by
  refine metD F nb.cl_Nest nb.me_Nest_shrink sc_Nest_shrink (fun _ _ _ _ _ _ us hl => match us, hl with | [_], _ => rfl) len1 (fun cdv A outer s H vs Q E hr h => ⟨_, (pss_one (ps_expr (pe_bm0 PySem.F.plainAttrs_list PySem.F.slot_list_pop PySem.F.type_list_pop mt_pop (pe_fld (pv 0) rfl)))), ?_⟩)
  obtain ⟨_, rfl, n, ll, d, ds, l, lv, rfl, ⟨⟨dx, hA⟩, hL, hV, hN⟩, h⟩ := h
  rw [rev_map_snoc] at hL
  walk_at "rf"
  refine ⟨tyL hL, ?_⟩
  walk_at "rf"
  refine r_popE hL fun H1 hL1 f1 => ?_
  have hN' : (nsOwn n ll ds).Nodup := by
    refine hN.sublist ?_
    exact List.Sublist.cons₂ _ (List.Sublist.cons₂ _ (List.sublist_cons_self ..))
  have nl : n ≠ ll := fun q => (List.nodup_cons.mp hN).1 (by simp [q])
  walk_at "rf"
  refine h H1 ⟨⟨dx, by walk_at "hl"⟩, hL1, hV.2.2.get (o := [ll]) (Ch.eb f1 (by simp) Ch.refl) fun x hx q => ?_, hN'⟩ (Ch.eb f1 (by simp [nsOwn]) Ch.refl)
  have e : x = ll := by simpa using q
  have := (List.nodup_cons.mp (List.nodup_cons.mp hN').2).1
  exact this (by rw [← e]; exact hx)
theorem ok_Nest_note_key (F : FunD K "note_key" "Nest.note_key" (defArgs s_Nest_note_key) (defBody s_Nest_note_key) (defScope s_Nest_note_key) [] [] (meAd "Nest" "note_key" K) fd) (nb : Nm K mg) : Met P w K mg base 1 (C_Nest K) "note_key" (sp_Nest_note_key K) [] := by
  refine metD F nb.cl_Nest nb.me_Nest_note_key sc_Nest_note_key (fun _ _ _ _ _ _ us hl => match us, hl with | [_, _], _ => rfl) len2 (fun cdv A outer s H vs Q E hr h => ⟨_, (pss_cons (ps_set (i := 2) sc_Nest_note_key.nd rfl (Or.inl rfl) (pe_ix ix_tup (pe_ix ix_list (pe_fld (pv 0) rfl) (pe_un un_neg pe_int) (fun _ _ => rfl)) pe_int (fun _ _ => rfl)))
    (pss_cons (ps_if (pt_cmp (pc_din (hu_of hr) (pv 1) (pv 2)))
    (pss_one (ps_ret pe_bl))
    pss_nil)
    (pss_cons (ps_dput (hu_of hr) (pv 2) (pv 1) pe_bl rfl)
    (pss_one (ps_ret pe_bl))))), ?_⟩)
  obtain ⟨_, _, rfl, n, ll, d, ds, l, lv, b, k, rfl, rfl, hB, ⟨⟨dx, hA⟩, hL, hV, hN⟩, hl, h1, h2⟩ := h
  rw [rev_map_snoc] at hL
  have hB' : H b = some (.tup ((ikey k).map kV)) := by rw [kv_ikey]; exact hB
  walk_at "rf"
  refine r_ixL (SqL.of hL) at_last ?_
  walk_at "rf"
  refine r_ixT (SqT.of hV.1) rfl ?_
  walk_at "rf"
  refine ⟨d.2, _, rfl, DGet.t hV.2.1 hB', ?_⟩
  rw [ktab_get]
  walk_at "rf"
  refine r_ite (fun c => ?_) (fun c => ?_)
  · walk_at "rf"
    exact h1 c
  walk_at "rf"
  refine ⟨d.2, _, rfl, DPut.t hV.2.1 hB' (by unfold ktab; rw [List.length_map]; exact hl), ?_⟩
  rw [ktab_put c]
  have f1 : Eb d.2 H (upd H d.2 (.dT (ktab (l.ks ++ [k])))) := Eb.upd hV.2.1 fun xs e => by cases e
  have g1 : upd H d.2 (.dT (ktab (l.ks ++ [k]))) d.2 = some (.dT (ktab (l.ks ++ [k]))) := upd_same
  generalize upd H d.2 (.dT (ktab (l.ks ++ [k]))) = H1 at f1 g1 ⊢
  walk_at "rf"
  have nd : n ≠ d.2 := fun q => (List.nodup_cons.mp hN).1 (by simp [q])
  have ld : ll ≠ d.2 := fun q => (List.nodup_cons.mp (List.nodup_cons.mp hN).2).1 (by simp [q])
  have dd : d.2 ∉ ds.map (·.2) := (List.nodup_cons.mp (List.nodup_cons.mp (List.nodup_cons.mp hN).2).2).1
  have c1 : Ch [d.2] H H1 := Ch.eb f1 (by simp) Ch.refl
  refine h2 c H1 ⟨⟨dx, by walk_at "hl"⟩, by rw [rev_map_snoc]; walk_at "hl", ⟨c1.tup hV.1, g1, hV.2.2.get c1 fun x hx q => ?_⟩, hN⟩ (Ch.eb f1 (by simp [nsOwn]) Ch.refl)
  have e : x = d.2 := by simpa using q
  exact dd (by rw [← e]; exact hx)
end

/-! ### a number, digit by digit -/









def NuAt (K : Frg) (H : Hp) (q : Addr) (sg w : Int) : Prop := (∃ dx, H q = some (.ins (C_Numeral K) dx (fs_Numeral (.int sg) (.int w) (.int 0) (.int 1) (.int 0)))) ∧ (sg = 1 ∨ sg = -1)
theorem NuAt.get {K : Frg} {H H' : Hp} {q : Addr} {sg w : Int} {o : List Addr} (h : NuAt K H q sg w) (c : Ch o H H') (n : q ∉ o) : NuAt K H' q sg w := ⟨⟨h.1.choose, c.get n h.1.choose_spec⟩, h.2⟩
structure Bn where
  d : Bool
  sg : Int
  w : Int
  st : Str
def bn0 : Bn := ⟨false, 1, 0, ""⟩
def BnAt (K : Frg) (H : Hp) (a q : Addr) (s : Bn) : Prop := ∃ dx, H a = some (.ins (C_BencodeNumber K) dx (fs_BencodeNumber (.bl s.d) (.ref q) (.str s.st))) ∧ NuAt K H q s.sg s.w ∧ a ≠ q
theorem BnAt.get {K : Frg} {H H' : Hp} {a q : Addr} {s : Bn} {o : List Addr} (h : BnAt K H a q s) (c : Ch o H H') (na : a ∉ o) (nq : q ∉ o) : BnAt K H' a q s := by
  obtain ⟨dx, h1, h2, h3⟩ := h
  exact ⟨dx, c.get na h1, h2.get c nq, h3⟩
def bnPair (s : Bn) : Int × Int := nrm (s.sg * s.w) 0
def bnEnds (s : Bn) : Bool := decide (s.st = "zero" ∨ s.st = "digits")
def bnDigit (s : Bn) (d : Int) : Bool × Bn :=
  if s.st = "zero" ∨ (s.st = "minus" ∧ d = 0) then (false, s) else (true, { s with st := if s.st = "" ∧ d = 0 then "zero" else "digits", w := s.w * 10 + d })
def bnMinus (s : Bn) : Bool × Bn := if s.st = "" then (true, { s with st := "minus", sg := -1 }) else (false, s)
def bnTake (s : Bn) (o : Int) : Bool × Bn :=
  if o = 101 then (bnEnds s && decide ((bnPair s).2 ≤ 800), { s with d := bnEnds s }) else if o = 45 then bnMinus s else if isDg o = true then bnDigit s (o - 48) else (false, s)
def sp_Numeral___init__ (K : Frg) : Sp := sp1 fun p H Q _ => ∃ a dx, p = .ref a ∧ H a = some (.ins (C_Numeral K) dx []) ∧ ∀ H', NuAt K H' a 1 0 → Ch [a] H H' → Q .non H'
def sp_Numeral_negate (K : Frg) : Sp := sp1 fun p H Q _ => ∃ a sg w, p = .ref a ∧ NuAt K H a sg w ∧ ∀ H', NuAt K H' a (-1) w → Ch [a] H H' → Q .non H'
def sp_Numeral_add_digit (K : Frg) : Sp := sp2 fun p o H Q _ => ∃ a sg w d, p = .ref a ∧ o = .int d ∧ NuAt K H a sg w ∧ ∀ H', NuAt K H' a sg (w * 10 + d) → Ch [a] H H' → Q .non H'
def sp_Numeral_pair (K : Frg) : Sp := sp1 fun p H Q _ => ∃ a sg w, p = .ref a ∧ NuAt K H a sg w ∧ ∀ p H', H' p = some (.tup [.int (nrm (sg * w) 0).1, .int (nrm (sg * w) 0).2]) → Same H H' → Q (.ref p) H'
def sp_BencodeNumber___init__ (K : Frg) : Sp := sp1 fun p H Q _ => ∃ a dx, p = .ref a ∧ H a = some (.ins (C_BencodeNumber K) dx []) ∧ ∀ q H', H q = none → BnAt K H' a q bn0 → Ch [a] H H' → Q .non H'
def SpBn (K : Frg) (f : Bn → Int → Bool × Bn) : Sp := sp2 fun p o H Q _ => ∃ a q s b, p = .ref a ∧ o = .int b ∧ BnAt K H a q s ∧ ∀ H', BnAt K H' a q (f s b).2 → Ch [a, q] H H' → Q (.bl (f s b).1) H'
def sp_BencodeNumber_take (K : Frg) : Sp := SpBn K bnTake
def sp_BencodeNumber__take_digit (K : Frg) : Sp := SpBn K bnDigit
def sp_BencodeNumber__take_minus (K : Frg) : Sp := sp1 fun p H Q _ => ∃ a q s, p = .ref a ∧ BnAt K H a q s ∧ ∀ H', BnAt K H' a q (bnMinus s).2 → Ch [a, q] H H' → Q (.bl (bnMinus s).1) H'
def sp_BencodeNumber_leaf (K : Frg) : Sp := sp1 fun p H Q _ => ∃ a q s, p = .ref a ∧ BnAt K H a q s ∧ ∀ p H', Tp H' p (.tuple [.str "number", .int (bnPair s).1, .int (bnPair s).2]) → Same H H' → Q p H'
/-- a new object: what its making leaves -/
theorem mk_ch {H H2 H' : Hp} {a dx C : Addr} {o : List Addr} (ha : H a = none) (hd : H dx = none) (hne : dx ≠ a) (c : Ch [a] (upd (upd H dx (.own a)) a (.ins C dx [])) H') : Ch o H H' := fun x u h _ => by
  have h1 : x ≠ a := fun e => by rw [e, ha] at h; cases h
  have h2 : x ≠ dx := fun e => by rw [e, hd] at h; cases h
  exact c.get (by simp [h1]) (by rw [upd_ne h1, upd_ne h2]; exact h)
theorem mk_same {H H' : Hp} {a dx C : Addr} (ha : H a = none) (hd : H dx = none) (c : Ch [a] (upd (upd H dx (.own a)) a (.ins C dx [])) H') : Same H H' := fun x u h => by
  have h1 : x ≠ a := fun e => by rw [e, ha] at h; cases h
  have h2 : x ≠ dx := fun e => by rw [e, hd] at h; cases h
  exact c.get (by simp [h1]) (by rw [upd_ne h1, upd_ne h2]; exact h)
theorem mk_free {H : Hp} {a dx C l : Addr} (h : upd (upd H dx (.own a)) a (.ins C dx []) l = none) : H l = none := by
  by_cases e : l = a
  · rw [e, upd_same] at h
    cases h
  rw [upd_ne e] at h
  by_cases e2 : l = dx
  · rw [e2, upd_same] at h
    cases h
  rw [upd_ne e2] at h
  exact h
theorem d_numeral {K : Frg} {H : Hp} {R : Addr → Hp → Prop} {E : XK} (h : ∀ a H', H a = none → NuAt K H' a 1 0 → Same H H' → R a H') : ∀ x dx, H x = none → H dx = none → dx ≠ x → sp_Numeral___init__ K (.ref x :: ([] ++ [])) (upd (upd H dx (.own x)) x (.ins (C_Numeral K) dx [])) (fun v H2 => v = .non ∧ R x H2) E := fun a dx ha hd hne =>
  ⟨_, rfl, a, dx, rfl, upd_same, fun H' hN c => ⟨rfl, h a H' ha hN (mk_same ha hd c)⟩⟩
theorem d_bnum {K : Frg} {H : Hp} {R : Addr → Hp → Prop} {E : XK} (h : ∀ a q H', H a = none → H q = none → BnAt K H' a q bn0 → Same H H' → R a H') : ∀ x dx, H x = none → H dx = none → dx ≠ x → sp_BencodeNumber___init__ K (.ref x :: ([] ++ [])) (upd (upd H dx (.own x)) x (.ins (C_BencodeNumber K) dx [])) (fun v H2 => v = .non ∧ R x H2) E := fun a dx ha hd hne =>
  ⟨_, rfl, a, dx, rfl, upd_same, fun q H' nq hN c => ⟨rfl, h a q H' ha (mk_free nq) hN (mk_same ha hd c)⟩⟩
theorem d_counted {K : Frg} {H : Hp} {R : Addr → Hp → Prop} {E : XK} (h : ∀ a l H', H a = none → H l = none → CtAt K H' a l ct0 → Same H H' → R a H') : ∀ x dx, H x = none → H dx = none → dx ≠ x → sp_Counted___init__ K (.ref x :: ([] ++ [])) (upd (upd H dx (.own x)) x (.ins (C_Counted K) dx [])) (fun v H2 => v = .non ∧ R x H2) E := fun a dx ha hd hne =>
  ⟨_, rfl, a, dx, rfl, upd_same, fun q H' nq hN c => ⟨rfl, h a q H' ha (mk_free nq) hN (mk_same ha hd c)⟩⟩
section
variable {P : Program} {w : World} {K : PySem.W.Frag} {mg : Str → Option Value} {base : Heap} {f : Addr} {fd : FuncData}
theorem ok_Numeral___init__ (F : FunD K "__init__" "Numeral.__init__" (defArgs s_Numeral___init__) (defBody s_Numeral___init__) (defScope s_Numeral___init__) [] [] (meAd "Numeral" "__init__" K) fd) (nb : Nm K mg) : Mak P w K mg base 1 "Numeral" (C_Numeral K) (sp_Numeral___init__ K) [] := by
  refine makD F nb.mk_Numeral nb.g_Numeral sc_Numeral___init__ (fun _ _ _ _ _ _ us hl => match us, hl with | [_], _ => rfl) len1 (fun cdv A outer s H vs Q E hr h => ⟨_, (pss_cons (ps_fld (pv 0) pe_int rfl)
    (pss_cons (ps_fld (pv 0) pe_int rfl)
    (pss_cons (ps_fld (pv 0) pe_int rfl)
    (pss_cons (ps_fld (pv 0) pe_int rfl)
    (pss_one (ps_fld (pv 0) pe_int rfl)))))), ?_⟩)
  obtain ⟨_, rfl, a, dx, rfl, hA, h⟩ := h
  walk_at "rf"
  refine r_fsetE hA nb.cl_Numeral nb.na_Numeral__sign (by decide) (in_Numeral__sign) fun H1 hA1 f1 => ?_
  walk_at "rf"
  refine r_fsetE hA1 nb.cl_Numeral nb.na_Numeral__worth (by simp) (in_Numeral__worth) fun H2 hA2 f2 => ?_
  walk_at "rf"
  refine r_fsetE hA2 nb.cl_Numeral nb.na_Numeral__scale (by simp) (in_Numeral__scale) fun H3 hA3 f3 => ?_
  walk_at "rf"
  refine r_fsetE hA3 nb.cl_Numeral nb.na_Numeral__exponent_sign (by simp) (in_Numeral__exponent_sign) fun H4 hA4 f4 => ?_
  walk_at "rf"
  refine r_fsetE hA4 nb.cl_Numeral nb.na_Numeral__exponent (by simp) (in_Numeral__exponent) fun H5 hA5 f5 => ?_
  exact h H5 ⟨⟨dx, hA5⟩, .inl rfl⟩ (by walk_at "ch")
theorem ok_Numeral_negate (F : FunD K "negate" "Numeral.negate" (defArgs s_Numeral_negate) (defBody s_Numeral_negate) (defScope s_Numeral_negate) [] [] (meAd "Numeral" "negate" K) fd) (nb : Nm K mg) : Met P w K mg base 1 (C_Numeral K) "negate" (sp_Numeral_negate K) [] := by
  refine metD F nb.cl_Numeral nb.me_Numeral_negate sc_Numeral_negate (fun _ _ _ _ _ _ us hl => match us, hl with | [_], _ => rfl) len1 (fun cdv A outer s H vs Q E hr h => ⟨_, (pss_one (ps_fld (pv 0) (pe_un un_neg pe_int) rfl)), ?_⟩)
  obtain ⟨_, rfl, a, sg, w, rfl, ⟨⟨dx, hA⟩, hs⟩, h⟩ := h
  walk_at "rf"
  walk_at "fs"
  intro H1 hA1 f1
  exact h H1 ⟨⟨dx, hA1⟩, .inr rfl⟩ (by walk_at "ch")
theorem ok_Numeral_add_digit (F : FunD K "add_digit" "Numeral.add_digit" (defArgs s_Numeral_add_digit) (defBody s_Numeral_add_digit) (defScope s_Numeral_add_digit) [] [] (meAd "Numeral" "add_digit" K) fd) (nb : Nm K mg) : Met P w K mg base 1 (C_Numeral K) "add_digit" (sp_Numeral_add_digit K) [] := by
  refine metD F nb.cl_Numeral nb.me_Numeral_add_digit sc_Numeral_add_digit (fun _ _ _ _ _ _ us hl => match us, hl with | [_, _], _ => rfl) len2 (fun cdv A outer s H vs Q E hr h => ⟨_, (pss_one (ps_fld (pv 0) (pe_op op_add (pe_op op_mul (pe_fld (pv 0) rfl) pe_int) (pv 1)) rfl)), ?_⟩)
  obtain ⟨_, _, rfl, a, sg, w, d, rfl, rfl, ⟨⟨dx, hA⟩, hs⟩, h⟩ := h
  walk_at "rf"
  walk_at "fs"
  intro H1 hA1 f1
  exact h H1 ⟨⟨dx, hA1⟩, hs⟩ (by walk_at "ch")
theorem ok_Numeral_pair (F : FunD K "pair" "Numeral.pair" (defArgs s_Numeral_pair) (defBody s_Numeral_pair) (defScope s_Numeral_pair) [] [] (meAd "Numeral" "pair" K) fd) (nb : Nm K mg) (c_normal : Cal P w K mg base 1 "normal" sp_normal []) : Met P w K mg base 2 (C_Numeral K) "pair" (sp_Numeral_pair K) [] := by
  refine metD F nb.cl_Numeral nb.me_Numeral_pair sc_Numeral_pair (fun _ _ _ _ _ _ us hl => match us, hl with | [_], _ => rfl) len1 (fun cdv A outer s H vs Q E hr h => ⟨_, (pss_one (ps_ret (pe_c c_normal hr (by decide) rfl (pa_cons (pe_op op_mul (pe_fld (pv 0) rfl) (pe_fld (pv 0) rfl)) (pa_cons (pe_op op_sub (pe_op op_mul (pe_fld (pv 0) rfl) (pe_fld (pv 0) rfl)) (pe_fld (pv 0) rfl)) pa_nil))))), ?_⟩)
  obtain ⟨_, rfl, a, sg, w, rfl, ⟨⟨dx, hA⟩, hs⟩, h⟩ := h
  walk_at "rf"
  refine r_I (.inl ⟨by omega, by omega⟩) ?_
  walk_at "rf"
  refine ⟨_, _, rfl, sg * w, 0, rfl, rfl, fun p x y e np => ?_⟩
  exact h p _ (by rw [upd_same, e]) (same_upd np _)
theorem ok_BencodeNumber___init__ (F : FunD K "__init__" "BencodeNumber.__init__" (defArgs s_BencodeNumber___init__) (defBody s_BencodeNumber___init__) (defScope s_BencodeNumber___init__) [] [] (meAd "BencodeNumber" "__init__" K) fd) (nb : Nm K mg) (k_Numeral : Mak P w K mg base 1 "Numeral" (C_Numeral K) (sp_Numeral___init__ K) []) : Mak P w K mg base 3 "BencodeNumber" (C_BencodeNumber K) (sp_BencodeNumber___init__ K) [] := by
  refine makD F nb.mk_BencodeNumber nb.g_BencodeNumber sc_BencodeNumber___init__ (fun _ _ _ _ _ _ us hl => match us, hl with | [_], _ => rfl) len1 (fun cdv A outer s H vs Q E hr h => ⟨_, (pss_cons (ps_fld (pv 0) pe_bl rfl)
    (pss_cons (ps_fld (pv 0) (pe_mk0 k_Numeral hr (by decide) rfl) rfl)
    (pss_one (ps_fld (pv 0) pe_str rfl)))), ?_⟩)
  obtain ⟨_, rfl, a, dx, rfl, hA, h⟩ := h
  walk_at "rf"
  refine r_fsetE hA nb.cl_BencodeNumber nb.na_BencodeNumber_is_done (by decide) (in_BencodeNumber_is_done) fun H1 hA1 f1 => ?_
  walk_at "rf"
  refine d_numeral fun q H2 nq hN s2 => ?_
  have hne : a ≠ q := Same.ne nq hA1
  have nq0 : H q = none := by rw [← f1.1 q (Ne.symm hne)]; exact nq
  walk_at "rf"
  refine r_fsetE (s2 _ _ hA1) nb.cl_BencodeNumber nb.na_BencodeNumber__numeral (by simp) (in_BencodeNumber__numeral) fun H3 hA3 f3 => ?_
  walk_at "rf"
  refine r_fsetE hA3 nb.cl_BencodeNumber nb.na_BencodeNumber__state (by simp) (in_BencodeNumber__state) fun H4 hA4 f4 => ?_
  have c4 : Ch [a] H2 H4 := by walk_at "ch"
  exact h q H4 nq0 ⟨dx, hA4, hN.get c4 (by simp [Ne.symm hne]), hne⟩ (by walk_at "ch")
theorem ok_BencodeNumber__take_minus (F : FunD K "_take_minus" "BencodeNumber._take_minus" (defArgs s_BencodeNumber__take_minus) (defBody s_BencodeNumber__take_minus) (defScope s_BencodeNumber__take_minus) [] [] (meAd "BencodeNumber" "_take_minus" K) fd) (nb : Nm K mg) (m_Numeral_negate : Met P w K mg base 1 (C_Numeral K) "negate" (sp_Numeral_negate K) []) : Met P w K mg base 2 (C_BencodeNumber K) "_take_minus" (sp_BencodeNumber__take_minus K) [] := by
  refine metD F nb.cl_BencodeNumber nb.me_BencodeNumber__take_minus sc_BencodeNumber__take_minus (fun _ _ _ _ _ _ us hl => match us, hl with | [_], _ => rfl) len1 (fun cdv A outer s H vs Q E hr h => ⟨_, (pss_cons (ps_if (pt_cmpR op_ne (pe_fld (pv 0) rfl) pe_str (nomark _))
    (pss_one (ps_ret pe_bl))
    pss_nil)
    (pss_cons (ps_fld (pv 0) pe_str rfl)
    (pss_cons (ps_expr (pe_mt0 m_Numeral_negate hr (by decide) (pe_fld (pv 0) rfl)))
    (pss_one (ps_ret pe_bl))))), ?_⟩)
  obtain ⟨_, rfl, a, q, s, rfl, hB, h⟩ := h
  obtain ⟨dx, hA, hN, hne⟩ := id hB
  obtain ⟨⟨dq, hq⟩, hsg⟩ := id hN
  walk_at "rf"
  unfold bnMinus at h
  refine r_iten (fun c => ?_) (fun c => ?_)
  · rw [if_neg c] at h
    walk_at "rf"
    exact h H ⟨dx, hA, hN, hne⟩ Ch.refl
  rw [if_pos c] at h
  walk_at "rf"
  walk_at "fs"
  intro H1 hA1 f1
  walk_at "rf"
  refine ⟨_, rfl, q, s.sg, s.w, rfl, hN.get (Ch.eb f1 (o := [a]) (by simp) Ch.refl) (by simp [Ne.symm hne]), fun H2 hN2 c2 => ?_⟩
  walk_at "rf"
  exact h H2 ⟨dx, by walk_at "hl", hN2, hne⟩ (c2.ch (by simp) (by walk_at "ch"))
theorem ok_BencodeNumber__take_digit (F : FunD K "_take_digit" "BencodeNumber._take_digit" (defArgs s_BencodeNumber__take_digit) (defBody s_BencodeNumber__take_digit) (defScope s_BencodeNumber__take_digit) [] [] (meAd "BencodeNumber" "_take_digit" K) fd) (nb : Nm K mg) (m_Numeral_add_digit : Met P w K mg base 1 (C_Numeral K) "add_digit" (sp_Numeral_add_digit K) []) : Met P w K mg base 2 (C_BencodeNumber K) "_take_digit" (sp_BencodeNumber__take_digit K) [] := by
  refine metD F nb.cl_BencodeNumber nb.me_BencodeNumber__take_digit sc_BencodeNumber__take_digit (fun _ _ _ _ _ _ us hl => match us, hl with | [_, _], _ => rfl) len2 (fun cdv A outer s H vs Q E hr h => ⟨_, (pss_cons (ps_if (PW.pt (pw_or (pt_cmpR op_eq (pe_fld (pv 0) rfl) pe_str (nomark _)) (pw_or1 (PW.pt (pw_and (pt_cmpR op_eq (pe_fld (pv 0) rfl) pe_str (nomark _)) (pw_and1 (pt_cmpR op_eq (pv 1) pe_int (nomark _))))))))
    (pss_one (ps_ret pe_bl))
    pss_nil)
    (pss_cons (ps_fld (pv 0) (pe_ifExp (PW.pt (pw_and (pt_cmpR op_eq (pe_fld (pv 0) rfl) pe_str (nomark _)) (pw_and1 (pt_cmpR op_eq (pv 1) pe_int (nomark _))))) pe_str pe_str) rfl)
    (pss_cons (ps_expr (pe_mt m_Numeral_add_digit hr (by decide) (pe_fld (pv 0) rfl) (pa_cons (pv 1) pa_nil)))
    (pss_one (ps_ret pe_bl))))), ?_⟩)
  obtain ⟨_, _, rfl, a, q, s, d, rfl, rfl, ⟨dx, hA, hN, hne⟩, h⟩ := h
  obtain ⟨⟨dq, hq⟩, hsg⟩ := id hN
  have first : ∀ R : Bool → Hp → Prop, R (decide (s.st = "zero" ∨ (s.st = "minus" ∧ d = 0))) H → (tOr (tTest (tOp rEq (tFld K (tVar 0) "_state") (tC (.str "zero")))) (tAnd (tTest (tOp rEq (tFld K (tVar 0) "_state") (tC (.str "minus")))) (tTest (tOp rEq (tVar 1) (tC (.int 0)))))) (L2.start ["self", "digit"] [V.ref a, V.int d]) H R := by
    intro R q
    walk_at "rf"
    refine r_ite (fun c => ?_) (fun c => ?_)
    · rw [decide_eq_true (.inl c)] at q
      exact q
    walk_at "rf"
    refine r_ite (fun c2 => ?_) (fun c2 => ?_)
    · walk_at "rf"
      have e : decide (s.st = "zero" ∨ (s.st = "minus" ∧ d = 0)) = decide (d = 0) := decide_eq_decide.mpr ⟨fun z => z.elim (fun z => absurd z c) And.right, fun z => .inr ⟨c2, z⟩⟩
      rw [e] at q
      exact q
    · rw [decide_eq_false (fun z => z.elim c fun z => c2 z.1)] at q
      exact q
  walk_at "rg"
  refine r_ifB (decide (s.st = "zero" ∨ (s.st = "minus" ∧ d = 0))) (fun R hR => first R hR) ?_
  unfold bnDigit at h
  refine r_ite (fun c => ?_) (fun c => ?_)
  · rw [if_pos c] at h
    walk_at "rf"
    exact h H ⟨dx, hA, hN, hne⟩ Ch.refl
  rw [if_neg c] at h
  walk_at "rk"
  refine r_joinE (.str (if s.st = "" ∧ d = 0 then "zero" else "digits")) ?_ ?_
  · intro R q
    walk_at "rf"
    refine r_ite (fun c => ?_) (fun c => ?_)
    · walk_at "rf"
      refine r_ite (fun c2 => ?_) (fun c2 => ?_)
      · rw [if_pos ⟨c, c2⟩] at q
        walk_at "rf"
        exact q
      · rw [if_neg (fun z => c2 z.2)] at q
        walk_at "rf"
        exact q
    · rw [if_neg (fun z => c z.1)] at q
      walk_at "rf"
      exact q
  walk_at "rf"
  walk_at "fs"
  intro H1 hA1 f1
  walk_at "rf"
  refine ⟨_, _, rfl, q, s.sg, s.w, d, rfl, rfl, hN.get (Ch.eb f1 (o := [a]) (by simp) Ch.refl) (by simp [Ne.symm hne]), fun H2 hN2 c2 => ?_⟩
  walk_at "rf"
  exact h H2 ⟨dx, by walk_at "hl", hN2, hne⟩ (c2.ch (by simp) (by walk_at "ch"))
theorem ok_BencodeNumber_take (F : FunD K "take" "BencodeNumber.take" (defArgs s_BencodeNumber_take) (defBody s_BencodeNumber_take) (defScope s_BencodeNumber_take) [] [] (meAd "BencodeNumber" "take" K) fd) (nb : Nm K mg) (c_is_digit : Cal P w K mg base 1 "is_digit" sp_is_digit []) (m_Numeral_pair : Met P w K mg base 2 (C_Numeral K) "pair" (sp_Numeral_pair K) []) (m_BencodeNumber__take_minus : Met P w K mg base 2 (C_BencodeNumber K) "_take_minus" (sp_BencodeNumber__take_minus K) []) (m_BencodeNumber__take_digit : Met P w K mg base 2 (C_BencodeNumber K) "_take_digit" (sp_BencodeNumber__take_digit K) []) : Met P w K mg base 3 (C_BencodeNumber K) "take" (sp_BencodeNumber_take K) [] := by
  refine metD F nb.cl_BencodeNumber nb.me_BencodeNumber_take sc_BencodeNumber_take (fun _ _ _ _ _ _ us hl => match us, hl with | [_, _], _ => rfl) len2 (fun cdv A outer s H vs Q E hr h => ⟨_, (pss_cons (ps_if (pt_cmpR op_eq (pv 1) (pe_gc rfl nb.g_SMALL_E) (nomark _))
    (pss_cons (ps_fld (pv 0) (pe_cmpR op_in_seq (pe_fld (pv 0) rfl) (pe_tupE (pa_cons pe_str (pa_cons pe_str pa_nil))) rfl) rfl)
    (pss_one (ps_ret (pe_and (pe_fld (pv 0) rfl) (pe_one (pe_cmpR op_le (pe_ix ix_tup (pe_mt0 m_Numeral_pair hr (by decide) (pe_fld (pv 0) rfl)) pe_int (fun _ _ => rfl)) (pe_gc rfl nb.g_LARGEST_EXPONENT) (nomark _)))))))
    pss_nil)
    (pss_cons (ps_if (pt_cmpR op_eq (pv 1) (pe_gc rfl nb.g_MINUS) (nomark _))
    (pss_one (ps_ret (pe_mt0 m_BencodeNumber__take_minus hr (by decide) (pv 0))))
    pss_nil)
    (pss_one (ps_ret (pe_and (pe_c c_is_digit hr (by decide) rfl (pa_cons (pv 1) pa_nil)) (pe_one (pe_mt m_BencodeNumber__take_digit hr (by decide) (pv 0) (pa_cons (pe_op op_sub (pv 1) (pe_gc rfl nb.g_ZERO_marks)) pa_nil)))))))), ?_⟩)
  obtain ⟨_, _, rfl, a, q, s, o, rfl, rfl, hB, h⟩ := h
  obtain ⟨dx, hA, hN, hne⟩ := id hB
  obtain ⟨⟨dq, hq⟩, hsg⟩ := id hN
  unfold bnTake at h
  walk_at "rf"
  refine r_ite (fun c => ?_) (fun c => ?_)
  · rw [if_pos c] at h
    walk_at "rf"
    refine ⟨by show 2 ≤ sizeLine; decide, fun p H1 np g1 s1 => ?_⟩
    refine ⟨p, _, rfl, .inr (SqT.of g1), rfl, rfl, ?_⟩
    have e : (if false = true then !inV (.str s.st) [V.str "zero", V.str "digits"] else inV (.str s.st) [V.str "zero", V.str "digits"]) = bnEnds s := by
      rw [if_neg Bool.false_ne_true]
      unfold bnEnds inV
      have q1 : ∀ x y : Str, eqV (.str x) (.str y) = decide (x = y) := fun x y => by
        show (x == y) = _
        by_cases c : x = y
        · subst c; simp
        · simp [c]
      simp only [List.any_cons, List.any_nil, q1, Bool.or_false]
      by_cases c1 : s.st = "zero"
      · simp [c1]
      · by_cases c2 : s.st = "digits"
        · simp [c2]
        · simp [c1, c2, Ne.symm c1, Ne.symm c2]
    rw [e]
    walk_at "rf"
    walk_at "fs"
    intro H2 hA2 f2
    have c12 : Ch [a] H H2 := by walk_at "ch"
    have hN2 : NuAt K H2 q s.sg s.w := hN.get c12 (by simp [Ne.symm hne])
    walk_at "rf"
    cases hb : bnEnds s with
    | false =>
      rw [hb] at h hA2
      exact h H2 ⟨dx, hA2, hN2, hne⟩ (c12.mono (by simp))
    | true =>
      rw [hb] at h hA2
      walk_at "rf"
      refine ⟨_, rfl, q, s.sg, s.w, rfl, hN2, fun p3 H3 g3 s3 => ?_⟩
      walk_at "rf"
      refine r_ixT (SqT.of g3) rfl ?_
      walk_at "rf"
      exact h H3 ⟨dx, s3 _ _ hA2, hN2.get (Ch.same (o := []) s3 Ch.refl) (by simp), hne⟩ (Ch.same s3 (c12.mono (by simp)))
  rw [if_neg c] at h
  walk_at "rf"
  refine r_ite (fun c => ?_) (fun c => ?_)
  · rw [if_pos c] at h
    walk_at "rf"
    exact ⟨_, rfl, a, q, s, rfl, hB, h⟩
  rw [if_neg c] at h
  walk_at "rf"
  refine ⟨_, rfl, o, rfl, _, rfl, ?_⟩
  cases hd : isDg o with
  | false =>
    rw [hd, if_neg Bool.false_ne_true] at h
    rw [if_neg Bool.false_ne_true]
    exact h H hB Ch.refl
  | true =>
    rw [hd, if_pos rfl] at h
    rw [if_pos rfl]
    walk_at "rf"
    exact ⟨_, _, rfl, a, q, s, _, rfl, rfl, hB, h⟩
theorem ok_BencodeNumber_leaf (F : FunD K "leaf" "BencodeNumber.leaf" (defArgs s_BencodeNumber_leaf) (defBody s_BencodeNumber_leaf) (defScope s_BencodeNumber_leaf) [] [] (meAd "BencodeNumber" "leaf" K) fd) (nb : Nm K mg) (m_Numeral_pair : Met P w K mg base 2 (C_Numeral K) "pair" (sp_Numeral_pair K) []) : Met P w K mg base 3 (C_BencodeNumber K) "leaf" (sp_BencodeNumber_leaf K) [] := by
  refine metD F nb.cl_BencodeNumber nb.me_BencodeNumber_leaf sc_BencodeNumber_leaf (fun _ _ _ _ _ _ us hl => match us, hl with | [_], _ => rfl) len1 (fun cdv A outer s H vs Q E hr h => ⟨_, (pss_cons (ps_asg (pe_mt0 m_Numeral_pair hr (by decide) (pe_fld (pv 0) rfl)) (pg_tup rfl (pgs_cons (pg_name (i := 1) sc_BencodeNumber_leaf.nd rfl (Or.inl rfl)) (pgs_cons (pg_name (i := 2) sc_BencodeNumber_leaf.nd rfl (Or.inl rfl)) pgs_nil))))
    (pss_one (ps_ret (pe_tupE (pa_cons pe_str (pa_cons (pv 1) (pa_cons (pv 2) pa_nil))))))), ?_⟩)
  obtain ⟨_, rfl, a, q, s, rfl, hB, h⟩ := h
  obtain ⟨dx, hA, hN, hne⟩ := id hB
  obtain ⟨⟨dq, hq⟩, hsg⟩ := id hN
  walk_at "rf"
  refine ⟨_, rfl, q, s.sg, s.w, rfl, hN, fun p3 H3 g3 s3 => ?_⟩
  refine r_gtup (SqT.of g3) rfl ?_
  walk_at "rf"
  refine ⟨by show 3 ≤ sizeLine; decide, fun t H4 nt g4 s4 => ?_⟩
  exact h (.ref t) H4 (.tup g4 (.cons (.str _) (.cons (.int _) (.cons (.int _) .nil)))) (s3.trans s4)
end

/-! ### a key, octet by octet -/



structure Bk where
  d : Bool
  c : Ct
  u : U8
def bk0 : Bk := ⟨false, ct0, u80⟩
theorem U8At.get {K : Frg} {H H' : Hp} {a l : Addr} {s : U8} {o : List Addr} (h : U8At K H a l s) (c : Ch o H H') (na : a ∉ o) (nl : l ∉ o) : U8At K H' a l s := by
  obtain ⟨dx, h1, h2⟩ := h
  exact ⟨dx, c.get na h1, c.get nl h2⟩
theorem But.ch {K : Frg} {H H' : Hp} {a l : Addr} {s : U8} (h : But a l H H') (hU : U8At K H a l s) : Ch [a, l] H H' := fun x u hx hn => by
  obtain ⟨dx, h1, h2⟩ := hU
  by_cases e1 : x = a
  · subst e1
    obtain ⟨xs, rfl⟩ := hn (by simp)
    rw [h1] at hx
    cases hx
  by_cases e2 : x = l
  · subst e2
    obtain ⟨xs, rfl⟩ := hn (by simp)
    rw [h2] at hx
    cases hx
  exact h x u e1 e2 hx
/-- Utf8() -/
theorem d_u8 {K : Frg} {H : Hp} {R : Addr → Hp → Prop} {E : XK} (h : ∀ a l H', H a = none → H l = none → U8At K H' a l u80 → Same H H' → R a H') : ∀ x dx, H x = none → H dx = none → dx ≠ x → sp_Utf8___init__ K (.ref x :: ([] ++ [])) (upd (upd H dx (.own x)) x (.ins (C_Utf8 K) dx [])) (fun v H2 => v = .non ∧ R x H2) E := by
  intro a dx ha hd hne
  refine ⟨_, rfl, a, dx, rfl, upd_same, fun l H' hl hla hU g => ⟨rfl, ?_⟩⟩
  have hl0 : H l = none := by
    rw [upd_ne hla] at hl
    by_cases e : l = dx
    · rw [e] at hl ⊢
      exact hd
    · rw [upd_ne e] at hl
      exact hl
  refine h a l H' ha hl0 hU fun b u z => ?_
  have h1 : b ≠ a := fun e => by
    rw [e, ha] at z
    cases z
  have h2 : b ≠ dx := fun e => by
    rw [e, hd] at z
    cases z
  refine g b u h1 ?_
  rw [upd_ne h1, upd_ne h2]
  exact z
def BkAt (K : Frg) (H : Hp) (a c cl u ul : Addr) (s : Bk) : Prop := ∃ dx, H a = some (.ins (C_BencodeKey K) dx (fs_BencodeKey (.bl s.d) (.ref c) (.ref u))) ∧ CtAt K H c cl s.c ∧ U8At K H u ul s.u ∧ [a, c, cl, u, ul].Nodup
theorem BkAt.get {K : Frg} {H H' : Hp} {a c cl u ul : Addr} {s : Bk} {o : List Addr} (h : BkAt K H a c cl u ul s) (k : Ch o H H') (n : ∀ x ∈ [a, c, cl, u, ul], x ∉ o) : BkAt K H' a c cl u ul s := by
  obtain ⟨dx, h1, h2, h3, h4⟩ := h
  exact ⟨dx, k.get (n _ (by simp)) h1, h2.get k (n _ (by simp)) (n _ (by simp)), h3.get k (n _ (by simp)) (n _ (by simp)), h4⟩
def bkFin (d : Bool) (c : Ct) (u : U8) : Bool × Bk := (!c.d || !decide (u.ms > 0), ⟨c.d, c, u⟩)
def bkTake (s : Bk) (o : Int) : Bool × Bk :=
  if (ctTake s.c o).1 = false then (false, { s with c := (ctTake s.c o).2 }) else
  if s.c.b = true then
    if (u8take s.u o).1 = false then (false, { s with c := (ctTake s.c o).2, u := (u8take s.u o).2 })
    else bkFin s.d (ctTake s.c o).2 (u8take s.u o).2
  else bkFin s.d (ctTake s.c o).2 s.u
def BkOk (s : Bk) : Prop := CtOk s.c ∧ s.c.os.length < sizeLine ∧ s.u.ps.length < sizeLine
def sp_BencodeKey___init__ (K : Frg) : Sp := sp1 fun p H Q _ => ∃ a dx, p = .ref a ∧ H a = some (.ins (C_BencodeKey K) dx []) ∧ ∀ c cl u ul H', (∀ x ∈ [c, cl, u, ul], H x = none) → BkAt K H' a c cl u ul bk0 → Ch [a] H H' → Q .non H'
def sp_BencodeKey_take (K : Frg) : Sp := sp2 fun p o H Q _ => ∃ a c cl u ul s b, p = .ref a ∧ o = .int b ∧ BkAt K H a c cl u ul s ∧ BkOk s ∧ ∀ H', BkAt K H' a c cl u ul (bkTake s b).2 → Ch [a, c, cl, u, ul] H H' → Q (.bl (bkTake s b).1) H'
def sp_BencodeKey_leaf (K : Frg) : Sp := sp1 fun p H Q _ => ∃ a c cl u ul s, p = .ref a ∧ BkAt K H a c cl u ul s ∧ ∀ p H', Tp H' p (.tuple [.str "text", kd s.u.ps]) → Same H H' → Q p H'
theorem d_bkey {K : Frg} {H : Hp} {R : Addr → Hp → Prop} {E : XK} (h : ∀ a c cl u ul H', (∀ x ∈ [a, c, cl, u, ul], H x = none) → BkAt K H' a c cl u ul bk0 → Same H H' → R a H') : ∀ x dx, H x = none → H dx = none → dx ≠ x → sp_BencodeKey___init__ K (.ref x :: ([] ++ [])) (upd (upd H dx (.own x)) x (.ins (C_BencodeKey K) dx [])) (fun v H2 => v = .non ∧ R x H2) E := fun a dx ha hd hne =>
  ⟨_, rfl, a, dx, rfl, upd_same, fun c cl u ul H' nq hN k => ⟨rfl, h a c cl u ul H' (ms_cons ha fun x hx => mk_free (nq x hx)) hN (mk_same ha hd k)⟩⟩
theorem or_fin {H : Hp} {Q : VK} {p q : Bool} {t : TE} {σ : St} (h1 : q = false → ∀ R : VK, R (.bl p) H → t σ H R) (h : Q (.bl (q || p)) H) : if q = true then Q (.bl true) H else t σ H Q := by
  cases q with
  | true => rw [if_pos rfl]; exact h
  | false => rw [if_neg Bool.false_ne_true]; exact h1 rfl Q h
section
variable {P : Program} {w : World} {K : PySem.W.Frag} {mg : Str → Option Value} {base : Heap} {f : Addr} {fd : FuncData}
theorem ok_BencodeKey___init__ (F : FunD K "__init__" "BencodeKey.__init__" (defArgs s_BencodeKey___init__) (defBody s_BencodeKey___init__) (defScope s_BencodeKey___init__) [] [] (meAd "BencodeKey" "__init__" K) fd) (nb : Nm K mg) (k_Counted : Mak P w K mg base 1 "Counted" (C_Counted K) (sp_Counted___init__ K) []) (k_Utf8 : Mak P w K mg base 1 "Utf8" (C_Utf8 K) (sp_Utf8___init__ K) []) : Mak P w K mg base 3 "BencodeKey" (C_BencodeKey K) (sp_BencodeKey___init__ K) [] := by
  refine makD F nb.mk_BencodeKey nb.g_BencodeKey sc_BencodeKey___init__ (fun _ _ _ _ _ _ us hl => match us, hl with | [_], _ => rfl) len1 (fun cdv A outer s H vs Q E hr h => ⟨_, (pss_cons (ps_fld (pv 0) pe_bl rfl)
    (pss_cons (ps_fld (pv 0) (pe_mk0 k_Counted hr (by decide) rfl) rfl)
    (pss_one (ps_fld (pv 0) (pe_mk0 k_Utf8 hr (by decide) rfl) rfl)))), ?_⟩)
  obtain ⟨_, rfl, a, dx, rfl, hA, h⟩ := h
  walk_at "rf"
  refine r_fsetE hA nb.cl_BencodeKey nb.na_BencodeKey_is_done (by decide) (in_BencodeKey_is_done) fun H1 hA1 f1 => ?_
  walk_at "rf"
  refine d_counted fun c cl H2 nc ncl hC s2 => ?_
  have ac : a ≠ c := Same.ne nc hA1
  have acl : a ≠ cl := Same.ne ncl hA1
  walk_at "rf"
  refine r_fsetE (s2 _ _ hA1) nb.cl_BencodeKey nb.na_BencodeKey__counted (by simp) (in_BencodeKey__counted) fun H3 hA3 f3 => ?_
  have hC3 : CtAt K H3 c cl ct0 := hC.get (Ch.eb f3 (o := [a]) (by simp) Ch.refl) (by simp [Ne.symm ac]) (by simp [Ne.symm acl])
  walk_at "rf"
  refine d_u8 fun u ul H4 nu nul hU s4 => ?_
  have au : a ≠ u := Same.ne nu hA3
  have aul : a ≠ ul := Same.ne nul hA3
  obtain ⟨dc, hc1, hc2, hc3⟩ := id hC3
  obtain ⟨du, hu1, hu2⟩ := id hU
  have hne := u8_ne hU
  walk_at "rf"
  refine r_fsetE (s4 _ _ hA3) nb.cl_BencodeKey nb.na_BencodeKey__utf8 (by simp) (in_BencodeKey__utf8) fun H5 hA5 f5 => ?_
  have c45 : Ch [a] H4 H5 := by walk_at "ch"
  have c34 : Ch [] H3 H4 := Ch.same s4 Ch.refl
  have fr : ∀ x, H3 x = none → x ≠ a → H x = none := fun x hx hn => by
    have e1 : H2 x = none := by rw [← f3.1 x hn]; exact hx
    have e2 : H1 x = none := s2.free e1
    rw [← f1.1 x hn]
    exact e2
  refine h c cl u ul H5 (ms_cons (by rw [← f1.1 c (Ne.symm ac)]; exact nc) (ms_cons (by rw [← f1.1 cl (Ne.symm acl)]; exact ncl) (ms_cons (fr u nu (Ne.symm au)) (ms_cons (fr ul nul (Ne.symm aul)) ms_nil)))) ⟨dx, hA5, (hC3.get c34 (by simp) (by simp)).get c45 (by simp [Ne.symm ac]) (by simp [Ne.symm acl]), hU.get c45 (by simp [Ne.symm au]) (by simp [Ne.symm aul]), ?_⟩ (by walk_at "ch")
  have cu : c ≠ u := Same.ne nu hc1
  have cul : c ≠ ul := Same.ne nul hc1
  have clu : cl ≠ u := Same.ne nu hc2
  have clul : cl ≠ ul := Same.ne nul hc2
  simp [ac, acl, au, aul, hc3, cu, cul, clu, clul, Ne.symm hne]
theorem ok_BencodeKey_take (F : FunD K "take" "BencodeKey.take" (defArgs s_BencodeKey_take) (defBody s_BencodeKey_take) (defScope s_BencodeKey_take) [] [] (meAd "BencodeKey" "take" K) fd) (nb : Nm K mg) (m_Counted_take : Met P w K mg base 3 (C_Counted K) "take" (sp_Counted_take K) []) (p_Utf8_is_open : Prp P w K mg base 1 (C_Utf8 K) "is_open" (sp_Utf8_is_open K)) (m_Utf8_take : Met P w K mg base 2 (C_Utf8 K) "take" (sp_Utf8_take K) []) : Met P w K mg base 4 (C_BencodeKey K) "take" (sp_BencodeKey_take K) [] := by
  refine metD F nb.cl_BencodeKey nb.me_BencodeKey_take sc_BencodeKey_take (fun _ _ _ _ _ _ us hl => match us, hl with | [_, _], _ => rfl) len2 (fun cdv A outer s H vs Q E hr h => ⟨_, (pss_cons (ps_set (i := 2) sc_BencodeKey_take.nd rfl (Or.inl rfl) (pe_fld (pe_fld (pv 0) rfl) rfl))
    (pss_cons (ps_if (pt_not (pt_val (pe_mt m_Counted_take hr (by decide) (pe_fld (pv 0) rfl) (pa_cons (pv 1) pa_nil))))
    (pss_one (ps_ret pe_bl))
    pss_nil)
    (pss_cut (ps_if (PW.pt (pw_and (pt_val (pv 2)) (pw_and1 (pt_not (pt_val (pe_mt m_Utf8_take hr (by decide) (pe_fld (pv 0) rfl) (pa_cons (pv 1) pa_nil)))))))
    (pss_one (ps_ret pe_bl))
    pss_nil)
    (pss_cons (ps_fld (pv 0) (pe_fld (pe_fld (pv 0) rfl) rfl) rfl)
    (pss_one (ps_ret (pe_or (pe_not (pe_fld (pv 0) rfl)) (pe_one (pe_not (pe_pr p_Utf8_is_open hr (by decide) (pe_fld (pv 0) rfl))))))))))), ?_⟩)
  obtain ⟨_, _, rfl, a, c, cl, u, ul, s, b, rfl, rfl, ⟨dx, hA, hC, hU, hN⟩, ⟨ok1, ok2, ok3⟩, h⟩ := h
  obtain ⟨dc, hc1, hc2, hc3⟩ := id hC
  obtain ⟨du, hu1, hu2⟩ := id hU
  simp only [List.nodup_cons, List.mem_cons, List.not_mem_nil, or_false, not_or] at hN
  obtain ⟨⟨ac, acl, au, aul⟩, ⟨ccl, cu, cul⟩, ⟨clu, clul⟩, ⟨uul, _⟩⟩ := hN
  have hN' : [a, c, cl, u, ul].Nodup := by simp [ac, acl, au, aul, ccl, cu, cul, clu, clul, uul]
  walk_at "rf"
  refine ⟨_, _, rfl, c, cl, s.c, b, rfl, rfl, hC, ok1, ok2, fun H1 hC1 k1 => ?_⟩
  unfold bkTake at h
  have hA1 := k1.get (x := a) (by simp [ac, acl]) hA
  have hU1 : U8At K H1 u ul s.u := hU.get k1 (by simp [Ne.symm cu, Ne.symm clu]) (by simp [Ne.symm cul, Ne.symm clul])
  have k1' : Ch [a, c, cl, u, ul] H H1 := k1.mono (by intro x hx; simp at hx ⊢; rcases hx with e | e <;> simp [e])
  cases h1 : (ctTake s.c b).1 with
  | false =>
    rw [if_pos h1] at h
    walk_at "rf"
    exact h H1 ⟨dx, hA1, hC1, hU1, hN'⟩ k1'
  | true =>
    rw [if_neg (by rw [h1]; decide)] at h
    obtain ⟨du1, hu11, hu12⟩ := id hU1
    obtain ⟨dc1, hc11, hc12, _⟩ := id hC1
    walk_at "rg"
    refine r_cut (fun σ H2 => ∃ t : U8, (∀ H', BkAt K H' a c cl u ul (bkFin s.d (ctTake s.c b).2 t).2 → Ch [a, c, cl, u, ul] H H' → Q (.bl (bkFin s.d (ctTake s.c b).2 t).1) H') ∧ H2 a = some (.ins (C_BencodeKey K) dx (fs_BencodeKey (.bl s.d) (.ref c) (.ref u))) ∧ CtAt K H2 c cl (ctTake s.c b).2 ∧ U8At K H2 u ul t ∧ Ch [a, c, cl, u, ul] H H2 ∧ σ = [some (.ref a), some (.int b), some (.bl s.c.b)]) ?_ ?_
    · walk_at "rf"
      cases hb : s.c.b with
      | false =>
        rw [hb, if_neg Bool.false_ne_true] at h
        walk_at "rf"
        exact ⟨s.u, h, hA1, hC1, hU1, k1', rfl⟩
      | true =>
        rw [hb, if_pos rfl] at h
        walk_at "rf"
        refine ⟨_, _, rfl, u, ul, s.u, b, rfl, rfl, hU1, ok3, fun H2 hU2 k2 => ?_⟩
        have k2 := k2.ch hU1
        have hA2 := k2.get (x := a) (by simp [au, aul]) hA1
        have hC2 := hC1.get k2 (by simp [cu, cul]) (by simp [clu, clul])
        have k2' : Ch [a, c, cl, u, ul] H H2 := k2.ch (by intro x hx; simp at hx ⊢; rcases hx with e | e <;> simp [e]) k1'
        cases h2 : (u8take s.u b).1 with
        | false =>
          rw [if_pos h2] at h
          walk_at "rf"
          exact h H2 ⟨dx, hA2, hC2, hU2, hN'⟩ k2'
        | true =>
          rw [if_neg (by rw [h2]; decide)] at h
          walk_at "rf"
          exact ⟨_, h, hA2, hC2, hU2, k2', rfl⟩
    · rintro σ H2 ⟨t, h, hA2, hC2, hU2, k2, rfl⟩
      obtain ⟨du2, hu21, hu22⟩ := id hU2
      obtain ⟨dc2, hc21, hc22, _⟩ := id hC2
      walk_at "rf"
      walk_at "fs"
      intro H3 hA3 f3
      have k3 : Ch [a] H2 H3 := by walk_at "ch"
      have hU3 := hU2.get k3 (by simp [Ne.symm au]) (by simp [Ne.symm aul])
      have hC3 := hC2.get k3 (by simp [Ne.symm ac]) (by simp [Ne.symm acl])
      obtain ⟨du3, hu31, hu32⟩ := id hU3
      walk_at "rf"
      have h := h H3 ⟨dx, hA3, hC3, hU3, hN'⟩ (k3.ch (by simp) k2)
      refine or_fin (q := !(ctTake s.c b).2.d) (p := !decide (t.ms > 0)) (fun _ R q => ?_) h
      walk_at "rf"
      exact ⟨_, rfl, u, ul, t, rfl, hU3, ⟨_, rfl, q⟩⟩
theorem ok_BencodeKey_leaf (F : FunD K "leaf" "BencodeKey.leaf" (defArgs s_BencodeKey_leaf) (defBody s_BencodeKey_leaf) (defScope s_BencodeKey_leaf) [] [] (meAd "BencodeKey" "leaf" K) fd) (nb : Nm K mg) : Met P w K mg base 1 (C_BencodeKey K) "leaf" (sp_BencodeKey_leaf K) [] := by
  refine metD F nb.cl_BencodeKey nb.me_BencodeKey_leaf sc_BencodeKey_leaf (fun _ _ _ _ _ _ us hl => match us, hl with | [_], _ => rfl) len1 (fun cdv A outer s H vs Q E hr h => ⟨_, (pss_one (ps_ret (pe_tupE (pa_cons pe_str (pa_cons (pe_callTy call_tuple_ofE (by rfl) nb.tuple (by decide +kernel) (pa_cons (pe_fld (pe_fld (pv 0) rfl) rfl) pa_nil)) pa_nil))))), ?_⟩)
  obtain ⟨_, rfl, a, c, cl, u, ul, s, rfl, ⟨dx, hA, hC, hU, hN⟩, h⟩ := h
  obtain ⟨du, hu1, hu2⟩ := id hU
  walk_at "rf"
  refine r_toT (SqL.of hu2) fun t H1 nt g1 s1 => ?_
  walk_at "rf"
  refine ⟨by show 2 ≤ sizeLine; decide, fun q H2 nq g2 s2 => ?_⟩
  exact h (.ref q) H2 (.tup g2 (.cons (.str _) (.cons (tp_kd (s2 _ _ g1)) .nil))) (s1.trans s2)
end

/-! ### the scanner of bencode -/










inductive Tok where
  | no
  | num (n : Bn)
  | key (k : Bk)
  | cnt (c : Ct)
def tokTake : Tok → Int → Bool × Tok
  | .no, _ => (false, .no)
  | .num s, o => ((bnTake s o).1, .num (bnTake s o).2)
  | .key s, o => ((bkTake s o).1, .key (bkTake s o).2)
  | .cnt s, o => ((ctTake s o).1, .cnt (ctTake s o).2)
def tokDone : Tok → Bool
  | .no => false
  | .num s => s.d
  | .key s => s.d
  | .cnt s => s.d
def tokOk : Tok → Prop
  | .no => True
  | .num _ => True
  | .key s => BkOk s
  | .cnt s => CtOk s ∧ s.os.length < sizeLine
structure Sc where
  pl : Nat
  wt : Str
  lv : List Lv
  tk : Tok
theorem kof_map (m : Bool) : kindOf_ m = "map" ↔ m = true := by
  cases m with
  | true => exact ⟨fun _ => rfl, fun _ => rfl⟩
  | false => exact ⟨fun h => absurd h (by decide +kernel), fun h => by cases h⟩
def sc0 : Sc := ⟨0, "value", [], .no⟩
def wtOf : List Lv → Str
  | [] => "nothing"
  | l :: _ => if l.m = true then "key" else "value"
def scEndValue (s : Sc) : Sc := { s with wt := wtOf s.lv }
def scNote (lv : List Lv) (k : List Int) : List Lv := match lv with
  | [] => []
  | l :: r => if k ∈ l.ks then l :: r else ⟨l.m, l.ks ++ [k]⟩ :: r
def scFresh (lv : List Lv) (k : List Int) : Bool := match lv with
  | [] => false
  | l :: _ => !decide (k ∈ l.ks)
def scEndToken (s : Sc) : Bool × List Ev × Sc := match s.tk with
  | .no => (true, [], s)
  | .num n => (true, [.lf "number" [.int (bnPair n).1, .int (bnPair n).2]], scEndValue { s with tk := .no })
  | .cnt c => (true, [.lf "bytes" [kd c.os]], scEndValue { s with tk := .no })
  | .key k => (scFresh s.lv k.u.ps, [.ky k.u.ps], { s with tk := .no, wt := "entry", lv := scNote s.lv k.u.ps })
def scGrow (s : Sc) (m : Bool) : Bool × List Ev × Sc :=
  if s.lv.length = 24 then (false, [], s) else (true, [.op m], { s with lv := ⟨m, []⟩ :: s.lv, wt := if m = true then "key" else "value" })
def scClose (s : Sc) : Bool × List Ev × Sc := match s.lv with
  | [] => (false, [], s)
  | _ :: r => if s.wt = "entry" then (false, [], s) else (true, [.cl], scEndValue { s with lv := r })
def scBegin (s : Sc) (t : Tok) (o : Int) : Bool × List Ev × Sc := ((tokTake t o).1, [], { s with tk := (tokTake t o).2 })
def scMark (s : Sc) (o : Int) : Bool × List Ev × Sc :=
  if o = 101 then scClose s else if s.wt = "nothing" then (false, [], s) else if s.wt = "key" then scBegin s (.key bk0) o
  else if o = 108 then scGrow s false else if o = 100 then scGrow s true else if o = 105 then (true, [], { s with tk := .num bn0 }) else scBegin s (.cnt ct0) o
def scGo (s : Sc) (o : Int) : Bool × List Ev × Sc :=
  if (tokTake s.tk o).1 = false then (false, [], { s with tk := (tokTake s.tk o).2 }) else
  if tokDone (tokTake s.tk o).2 = false then (true, [], { s with tk := (tokTake s.tk o).2 }) else scEndToken { s with tk := (tokTake s.tk o).2 }
def scTake (s : Sc) (o : Int) : Bool × List Ev × Sc := match s.tk with
  | .no => scMark s o
  | .num n => scGo s o
  | .key n => scGo s o
  | .cnt n => scGo s o
def scWant (s : Sc) : Prop := match s.tk with
  | .no => True
  | .num _ => s.wt ≠ "key"
  | .cnt _ => s.wt ≠ "key"
  | .key _ => s.wt = "key"
def Wf (s : Sc) : Prop := tokOk s.tk ∧ scWant s ∧ (s.wt = "key" → s.lv ≠ []) ∧ s.lv.length ≤ 24 ∧ ∀ l ∈ s.lv, l.ks.length < sizeLine
def We (s : Sc) : Prop := scWant s ∧ (s.wt = "key" → s.lv ≠ []) ∧ s.lv.length ≤ 24 ∧ ∀ l ∈ s.lv, l.ks.length < sizeLine
/-! where it stands -/
inductive TkA where
  | no
  | num (a q : Addr)
  | key (a c cl u ul : Addr)
  | cnt (c cl : Addr)
def TkA.own : TkA → List Addr
  | .no => []
  | .num a q => [a, q]
  | .key a c cl u ul => [a, c, cl, u, ul]
  | .cnt c cl => [c, cl]
def TkA.v : TkA → V
  | .no => .non
  | .num a _ => .ref a
  | .key a _ _ _ _ => .ref a
  | .cnt c _ => .ref c
def TkAt (K : Frg) (H : Hp) : TkA → Tok → Prop
  | .no, .no => True
  | .num a q, .num s => BnAt K H a q s
  | .key a c cl u ul, .key s => BkAt K H a c cl u ul s
  | .cnt c cl, .cnt s => CtAt K H c cl s
  | _, _ => False
theorem TkAt.get {K : Frg} {H H' : Hp} {o : List Addr} (k : Ch o H H') : ∀ {A : TkA} {t : Tok}, TkAt K H A t → (∀ x ∈ A.own, x ∉ o) → TkAt K H' A t
  | .no, .no, _, _ => trivial
  | .num a q, .num s, h, n => BnAt.get h k (n _ (by simp [TkA.own])) (n _ (by simp [TkA.own]))
  | .key a c cl u ul, .key s, h, n => BkAt.get h k n
  | .cnt c cl, .cnt s, h, n => CtAt.get h k (n _ (by simp [TkA.own])) (n _ (by simp [TkA.own]))
  | .no, .num _, h, _ => h.elim
  | .no, .key _, h, _ => h.elim
  | .no, .cnt _, h, _ => h.elim
  | .num _ _, .no, h, _ => h.elim
  | .num _ _, .key _, h, _ => h.elim
  | .num _ _, .cnt _, h, _ => h.elim
  | .key _ _ _ _ _, .no, h, _ => h.elim
  | .key _ _ _ _ _, .num _, h, _ => h.elim
  | .key _ _ _ _ _, .cnt _, h, _ => h.elim
  | .cnt _ _, .no, h, _ => h.elim
  | .cnt _ _, .num _, h, _ => h.elim
  | .cnt _ _, .key _, h, _ => h.elim
theorem TkAt.some {K : Frg} {H : Hp} : ∀ {A : TkA} {t : Tok}, TkAt K H A t → ∀ x ∈ A.own, ∃ u, H x = some u
  | .no, .no, _, x, hx => by simp [TkA.own] at hx
  | .num a q, .num s, ⟨dx, h1, ⟨⟨dq, h2⟩, _⟩, _⟩, x, hx => by
    simp [TkA.own] at hx
    rcases hx with rfl | rfl
    · exact ⟨_, h1⟩
    · exact ⟨_, h2⟩
  | .key a c cl u ul, .key s, ⟨dx, h1, ⟨dc, h2, h3, _⟩, ⟨du, h4, h5⟩, _⟩, x, hx => by
    simp [TkA.own] at hx
    rcases hx with rfl | rfl | rfl | rfl | rfl
    · exact ⟨_, h1⟩
    · exact ⟨_, h2⟩
    · exact ⟨_, h3⟩
    · exact ⟨_, h4⟩
    · exact ⟨_, h5⟩
  | .cnt c cl, .cnt s, ⟨dx, h1, h2, _⟩, x, hx => by
    simp [TkA.own] at hx
    rcases hx with rfl | rfl
    · exact ⟨_, h1⟩
    · exact ⟨_, h2⟩
  | .no, .num _, h, _, _ => h.elim
  | .no, .key _, h, _, _ => h.elim
  | .no, .cnt _, h, _, _ => h.elim
  | .num _ _, .no, h, _, _ => h.elim
  | .num _ _, .key _, h, _, _ => h.elim
  | .num _ _, .cnt _, h, _, _ => h.elim
  | .key _ _ _ _ _, .no, h, _, _ => h.elim
  | .key _ _ _ _ _, .num _, h, _, _ => h.elim
  | .key _ _ _ _ _, .cnt _, h, _, _ => h.elim
  | .cnt _ _, .no, h, _, _ => h.elim
  | .cnt _ _, .num _, h, _, _ => h.elim
  | .cnt _ _, .key _, h, _, _ => h.elim
theorem LvAt.some {H : Hp} : ∀ {ds : List (Addr × Addr)} {lv : List Lv}, LvAt H ds lv → ∀ x ∈ ds.map (·.2), ∃ u, H x = some u
  | [], [], _, x, hx => by simp at hx
  | d :: ds, l :: lv, h, x, hx => by
    rcases List.mem_cons.mp hx with e | hx
    · exact ⟨_, by rw [e]; exact h.2.1⟩
    · exact LvAt.some h.2.2 x hx
  | [], _ :: _, h, _, _ => h.elim
  | _ :: _, [], h, _, _ => h.elim
theorem NsAt.some {K : Frg} {H : Hp} {n ll : Addr} {ds : List (Addr × Addr)} {lv : List Lv} (h : NsAt K H n ll ds lv) : ∀ x ∈ nsOwn n ll ds, ∃ u, H x = some u := fun x hx => by
  obtain ⟨⟨dx, h1⟩, h2, h3, _⟩ := h
  rcases List.mem_cons.mp hx with e | hx
  · exact ⟨_, by rw [e]; exact h1⟩
  rcases List.mem_cons.mp hx with e | hx
  · exact ⟨_, by rw [e]; exact h2⟩
  · exact h3.some x hx
structure ScA where
  a : Addr
  n : Addr
  ll : Addr
  ds : List (Addr × Addr)
  t : TkA
def ScA.ns (A : ScA) : List Addr := nsOwn A.n A.ll A.ds
def ScA.own (A : ScA) : List Addr := A.a :: (A.ns ++ A.t.own)
structure ScAt (K : Frg) (H : Hp) (A : ScA) (s : Sc) : Prop where
  sc : ∃ dx, H A.a = some (.ins (C_BencodeScanner K) dx (fs_BencodeScanner (.int s.pl) (.str s.wt) (.ref A.n) A.t.v))
  ns : NsAt K H A.n A.ll A.ds s.lv
  tk : TkAt K H A.t s.tk
  nd : A.own.Nodup
theorem ScAt.get {K : Frg} {H H' : Hp} {o : List Addr} {A : ScA} {s : Sc} (h : ScAt K H A s) (k : Ch o H H') (n : ∀ x ∈ A.own, x ∉ o) : ScAt K H' A s := by
  obtain ⟨⟨dx, h1⟩, h2, h3, h4⟩ := h
  exact ⟨⟨dx, k.get (n _ (List.mem_cons_self ..)) h1⟩, h2.get k fun x hx => n x (List.mem_cons_of_mem _ (List.mem_append_left _ hx)), h3.get k fun x hx => n x (List.mem_cons_of_mem _ (List.mem_append_right _ hx)), h4⟩
theorem ScAt.some {K : Frg} {H : Hp} {A : ScA} {s : Sc} (h : ScAt K H A s) : ∀ x ∈ A.own, ∃ u, H x = some u := fun x hx => by
  rcases List.mem_cons.mp hx with e | hx
  · exact ⟨_, by rw [e]; exact h.sc.choose_spec⟩
  rcases List.mem_append.mp hx with hx | hx
  · exact h.ns.some x hx
  · exact h.tk.some x hx
theorem sca_nd {A : ScA} (h : A.own.Nodup) : A.a ∉ A.ns ∧ A.a ∉ A.t.own ∧ (∀ x ∈ A.ns, x ∉ A.t.own) ∧ (∀ x ∈ A.t.own, x ∉ A.ns) := by
  unfold ScA.own at h
  rw [List.nodup_cons, List.nodup_append] at h
  obtain ⟨h1, h2, h3, h4⟩ := h
  exact ⟨fun q => h1 (List.mem_append_left _ q), fun q => h1 (List.mem_append_right _ q), fun x hx q => h4 x hx x q rfl, fun x hx q => h4 x q x hx rfl⟩
def EvL (H : Hp) (p : Addr) (es : List Ev) : Prop := ∃ vs, H p = some (.lst vs) ∧ TpAll H vs (evD es)
theorem ev_add {H H' : Hp} {p T : Addr} {es : List Ev} {ev : Ev} {vs : List V} (tp : TpAll H vs (evD es)) (hT : Tp H (.ref T) ev.dat) (hp : H' p = some (.lst (vs ++ [.ref T]))) (tk : Tk H H') : EvL H' p (es ++ [ev]) :=
  ⟨_, hp, by rw [evD_app]; exact tpAll_app (TpAll.tk tk _ _ tp) (.cons (Tp.tk tk _ _ hT) .nil)⟩
theorem EvL.get {H H' : Hp} {o : List Addr} {p : Addr} {es : List Ev} (h : EvL H p es) (k : Ch o H H') (n : p ∉ o) : EvL H' p es := by
  obtain ⟨vs, h1, h2⟩ := h
  exact ⟨vs, k.get n h1, TpAll.tk k.tk _ _ h2⟩
theorem evl_len {H : Hp} {vs : List V} {es : List Ev} (h : TpAll H vs (evD es)) : vs.length = es.length := by
  have := tpAll_len h
  unfold evD at this
  rw [List.length_map] at this
  exact this
def sp_BencodeScanner___init__ (K : Frg) : Sp := sp1 fun p H Q _ => ∃ a dx, p = .ref a ∧ H a = some (.ins (C_BencodeScanner K) dx []) ∧ ∀ A H', A.a = a → (∀ x ∈ A.own, x = a ∨ H x = none) → ScAt K H' A sc0 → Ch [a] H H' → Q .non H'
def sp_BencodeScanner__end_value (K : Frg) : Sp := sp1 fun p H Q _ => ∃ A s, p = .ref A.a ∧ ScAt K H A s ∧ s.lv.length ≤ 1000 ∧ ∀ H', ScAt K H' A (scEndValue s) → Ch [A.a] H H' → Q .non H'
/-- what a step of a method with events wishes -/
def ScEv (K : Frg) (H : Hp) (A : ScA) (p : Addr) (es : List Ev) (r : Bool × List Ev × Sc) (Q : VK) : Prop := ∀ A' H', A'.a = A.a → (∀ x ∈ A'.own, x ∈ A.own ∨ H x = none) → ScAt K H' A' r.2.2 → EvL H' p (es ++ r.2.1) → Ch (p :: A.own) H H' → Q (.bl r.1) H'
def sp_BencodeScanner__grow (K : Frg) : Sp := sp3 fun p o e H Q _ => ∃ A s m q es, p = .ref A.a ∧ o = .str (kindOf_ m) ∧ e = .ref q ∧ ScAt K H A s ∧ s.lv.length ≤ 24 ∧ EvL H q es ∧ es.length ≤ 100 ∧ q ∉ A.own ∧ ScEv K H A q es (scGrow s m) Q
def sp_BencodeScanner__close (K : Frg) : Sp := sp2 fun p e H Q _ => ∃ A s q es, p = .ref A.a ∧ e = .ref q ∧ ScAt K H A s ∧ s.lv.length ≤ 24 ∧ EvL H q es ∧ es.length ≤ 100 ∧ q ∉ A.own ∧ ScEv K H A q es (scClose s) Q
def sp_BencodeScanner__end_token (K : Frg) : Sp := sp2 fun p e H Q _ => ∃ A s q es, p = .ref A.a ∧ e = .ref q ∧ ScAt K H A s ∧ We s ∧ s.tk ≠ .no ∧ EvL H q es ∧ es.length ≤ 100 ∧ q ∉ A.own ∧ ScEv K H A q es (scEndToken s) Q
def sp_BencodeScanner__begin_counted (K : Frg) : Sp := sp3 fun p t o H Q _ => ∃ A s T k b, p = .ref A.a ∧ t = T.v ∧ o = .int b ∧ ScAt K H A s ∧ A.t = .no ∧ TkAt K H T k ∧ tokOk k ∧ (k = .key bk0 ∨ k = .cnt ct0) ∧ ({ A with t := T } : ScA).own.Nodup ∧ ∀ H', ScAt K H' { A with t := T } { s with tk := (tokTake k b).2 } → Ch (A.a :: T.own) H H' → Q (.bl (tokTake k b).1) H'
def sp_BencodeScanner__take_mark (K : Frg) : Sp := sp3 fun p o e H Q _ => ∃ A s b q es, p = .ref A.a ∧ o = .int b ∧ e = .ref q ∧ ScAt K H A s ∧ Wf s ∧ s.tk = .no ∧ EvL H q es ∧ es.length ≤ 100 ∧ q ∉ A.own ∧ ScEv K H A q es (scMark s b) Q
def sp_BencodeScanner__take (K : Frg) : Sp := sp3 fun p o e H Q _ => ∃ A s b q es, p = .ref A.a ∧ o = .int b ∧ e = .ref q ∧ ScAt K H A s ∧ Wf s ∧ EvL H q es ∧ es.length ≤ 100 ∧ q ∉ A.own ∧ ScEv K H A q es (scTake s b) Q
def sp_BencodeScanner_step (K : Frg) : Sp := sp2 fun p o H Q _ => ∃ A s b, p = .ref A.a ∧ o = .int b ∧ ScAt K H A s ∧ Wf s ∧ (scTake s b).1 = true ∧
  ∀ A' q H', A'.a = A.a → (∀ x ∈ A'.own, x ∈ A.own ∨ H x = none) → ScAt K H' A' { (scTake s b).2.2 with pl := (scTake s b).2.2.pl + 1 } → EvL H' q (scTake s b).2.1 → H q = none → q ∉ A'.own → Ch A.own H H' → Q (.ref q) H'
def sp_BencodeScanner_end (K : Frg) : Sp := sp1 fun p H Q _ => ∃ A s, p = .ref A.a ∧ ScAt K H A s ∧ s.wt = "nothing" ∧ ∀ q H', H q = none → H' q = some (.lst []) → Same H H' → Q (.ref q) H'
theorem nest_fresh {K : Frg} {H H' : Hp} {n ll : Addr} {d : Addr × Addr} {ds : List (Addr × Addr)} {o : List Addr} (nd : H d.2 = none) (P : Addr → Prop) (hp : ∀ x ∈ nsOwn n ll ds, P x) (hq : H d.2 = none → P d.2) : ∀ x ∈ nsOwn n ll (d :: ds), P x := fun x hx => by
  unfold nsOwn at hx hp
  rw [List.map_cons] at hx
  rcases List.mem_cons.mp hx with e | hx
  · exact hp x (by rw [e]; simp)
  rcases List.mem_cons.mp hx with e | hx
  · exact hp x (by rw [e]; simp)
  rcases List.mem_cons.mp hx with e | hx
  · rw [e]; exact hq nd
  · exact hp x (List.mem_cons_of_mem _ (List.mem_cons_of_mem _ hx))
theorem nest_sub {n ll : Addr} {d : Addr × Addr} {ds : List (Addr × Addr)} : ∀ x ∈ nsOwn n ll ds, x ∈ nsOwn n ll (d :: ds) := fun x hx => by
  unfold nsOwn at hx ⊢
  rw [List.map_cons]
  rcases List.mem_cons.mp hx with e | hx
  · rw [e]; simp
  rcases List.mem_cons.mp hx with e | hx
  · rw [e]; simp
  · exact List.mem_cons_of_mem _ (List.mem_cons_of_mem _ (List.mem_cons_of_mem _ hx))
theorem lv_cons {H : Hp} {ds : List (Addr × Addr)} {l : Lv} {lv : List Lv} (h : LvAt H ds (l :: lv)) : ∃ d ds', ds = d :: ds' := by
  cases ds with
  | nil => exact h.elim
  | cons d ds => exact ⟨d, ds, rfl⟩
section
variable {P : Program} {w : World} {K : PySem.W.Frag} {mg : Str → Option Value} {base : Heap} {f : Addr} {fd : FuncData}
theorem ok_BencodeScanner__end_value (F : FunD K "_end_value" "BencodeScanner._end_value" (defArgs s_BencodeScanner__end_value) (defBody s_BencodeScanner__end_value) (defScope s_BencodeScanner__end_value) [] [] (meAd "BencodeScanner" "_end_value" K) fd) (nb : Nm K mg) (m_Nest_inner : Met P w K mg base 1 (C_Nest K) "inner" (sp_Nest_inner K) []) : Met P w K mg base 2 (C_BencodeScanner K) "_end_value" (sp_BencodeScanner__end_value K) [] := by
  refine metD F nb.cl_BencodeScanner nb.me_BencodeScanner__end_value sc_BencodeScanner__end_value (fun _ _ _ _ _ _ us hl => match us, hl with | [_], _ => rfl) len1 (fun cdv A outer s H vs Q E hr h => ⟨_, (pss_cons (ps_set (i := 1) sc_BencodeScanner__end_value.nd rfl (Or.inl rfl) (pe_mt0 m_Nest_inner hr (by decide) (pe_fld (pv 0) rfl)))
    (pss_one (ps_fld (pv 0) (pe_ifExp (pt_cmpR op_isN (pv 1) pe_non (nomark _)) pe_str (pe_ifExp (pt_cmpR op_eq (pv 1) pe_str (nomark _)) pe_str pe_str)) rfl))), ?_⟩)
  obtain ⟨_, rfl, A, s, rfl, ⟨⟨dx, hA⟩, hN, hT, nd⟩, hl, h⟩ := h
  obtain ⟨n1, n2, n3, n4⟩ := sca_nd nd
  obtain ⟨⟨dn, hn⟩, hL, hV, hD⟩ := id hN
  walk_at "rf"
  refine ⟨_, rfl, A.n, A.ll, A.ds, s.lv, rfl, hN, hl, ?_⟩
  walk_at "rk"
  refine r_joinE (.str (wtOf s.lv)) ?_ ?_
  · intro R q
    cases hlv : s.lv with
    | nil =>
      rw [hlv] at q
      walk_at "rf"
      exact q
    | cons l r =>
      rw [hlv] at q
      walk_at "rf"
      rw [show decide (kindV (l :: r) = V.non) = false from rfl, show kindV (l :: r) = .str (kindOf_ l.m) from rfl]
      have q : R (.str (if l.m = true then "key" else "value")) H := q
      walk_at "rf"
      refine r_ite (fun c => ?_) (fun c => ?_)
      · rw [if_pos ((kof_map _).mp c)] at q
        walk_at "rf"
        exact q
      · rw [if_neg (fun z => c (by rw [z]; rfl))] at q
        walk_at "rf"
        exact q
  walk_at "rf"
  walk_at "fs"
  intro H1 hA1 f1
  have k1 : Ch [A.a] H H1 := by walk_at "ch"
  exact h H1 ⟨⟨dx, hA1⟩, hN.get k1 (fun x hx q => n1 (by rw [List.mem_singleton.mp q] at hx; exact hx)), hT.get k1 (fun x hx q => n2 (by rw [List.mem_singleton.mp q] at hx; exact hx)), nd⟩ k1
theorem ok_BencodeScanner__grow (F : FunD K "_grow" "BencodeScanner._grow" (defArgs s_BencodeScanner__grow) (defBody s_BencodeScanner__grow) (defScope s_BencodeScanner__grow) [] [] (meAd "BencodeScanner" "_grow" K) fd) (nb : Nm K mg) (m_Nest_grow : Met P w K mg base 1 (C_Nest K) "grow" (sp_Nest_grow K) []) : Met P w K mg base 2 (C_BencodeScanner K) "_grow" (sp_BencodeScanner__grow K) [] := by
  refine metD F nb.cl_BencodeScanner nb.me_BencodeScanner__grow sc_BencodeScanner__grow (fun _ _ _ _ _ _ us hl => match us, hl with | [_, _, _], _ => rfl) len3 (fun cdv A outer s H vs Q E hr h => ⟨_, (pss_cons (ps_if (pt_not (pt_val (pe_mt m_Nest_grow hr (by decide) (pe_fld (pv 0) rfl) (pa_cons (pv 1) pa_nil))))
    (pss_one (ps_ret pe_bl))
    pss_nil)
    (pss_cons (ps_expr (pe_bm PySem.F.plainAttrs_list PySem.F.slot_list_append PySem.F.type_list_append mt_append (pv 2) (pa_cons (pe_tupE (pa_cons pe_str (pa_cons (pv 1) pa_nil))) pa_nil)))
    (pss_cons (ps_fld (pv 0) (pe_ifExp (pt_cmpR op_eq (pv 1) pe_str (nomark _)) pe_str pe_str) rfl)
    (pss_one (ps_ret pe_bl))))), ?_⟩)
  obtain ⟨_, _, _, rfl, A, s, m, q, es, rfl, rfl, rfl, ⟨⟨dx, hA⟩, hN, hT, nd⟩, hl, ⟨vs, hq, tp⟩, hes, qn, h⟩ := h
  obtain ⟨n1, n2, n3, n4⟩ := sca_nd nd
  obtain ⟨⟨dn, hn⟩, hL, hV, hD⟩ := id hN
  unfold scGrow at h
  walk_at "rf"
  refine ⟨_, _, rfl, A.n, A.ll, A.ds, s.lv, m, rfl, rfl, hN, hl, fun c => ?_, fun c d H1 nd1 nd2 hN1 k1 => ?_⟩
  · rw [if_pos c] at h
    walk_at "rf"
    exact h A H rfl (fun x hx => .inl hx) ⟨⟨dx, hA⟩, hN, hT, nd⟩ ⟨vs, hq, by rw [List.append_nil]; exact tp⟩ Ch.refl
  rw [if_neg c] at h
  have qa : q ≠ A.a := fun e => qn (by rw [e]; exact List.mem_cons_self ..)
  have qns : q ∉ A.ns := fun e => qn (List.mem_cons_of_mem _ (List.mem_append_left _ e))
  have hA1 := k1.get n1 hA
  have hq1 := k1.get qns hq
  have hT1 := hT.get k1 n4
  walk_at "rf"
  refine ⟨tyL hq1, ?_⟩
  walk_at "rf"
  refine ⟨by show 2 ≤ sizeLine; decide, fun T H2 nT gT s2 => ?_⟩
  walk_at "rf"
  refine r_appE (s2 _ _ hq1) (by rw [evl_len tp]; exact small1000 (by omega)) fun H3 hq3 f3 => ?_
  have hA3 := f3.get (Ne.symm qa) (s2 _ _ hA1)
  walk_at "rk"
  refine r_joinE (.str (if m = true then "key" else "value")) ?_ ?_
  · intro R z
    walk_at "rf"
    refine r_ite (fun c => ?_) (fun c => ?_)
    · rw [if_pos ((kof_map _).mp c)] at z
      walk_at "rf"
      exact z
    · rw [if_neg (fun z => c (by rw [z]; rfl))] at z
      walk_at "rf"
      exact z
  walk_at "rf"
  walk_at "fs"
  intro H4 hA4 f4
  walk_at "rf"
  have k13 : Ch [q] H1 H3 := by walk_at "ch"
  have k34 : Ch [A.a] H3 H4 := by walk_at "ch"
  have tk12 : Tk H H2 := k1.tk.trans (Same.tk s2)
  have sub : ∀ x ∈ nsOwn A.n A.ll (d :: A.ds), x ≠ A.a ∧ x ≠ q ∧ x ∉ A.t.own := nest_fresh (K := K) (H' := H) (o := []) nd2 (fun x => x ≠ A.a ∧ x ≠ q ∧ x ∉ A.t.own)
    (fun x hx => ⟨fun e => n1 (by rw [← e]; exact hx), fun e => qns (by rw [← e]; exact hx), n3 x hx⟩) fun z => ⟨fun e => (by rw [e, hA] at z; cases z), fun e => (by rw [e, hq] at z; cases z), fun e => (by obtain ⟨u, hu⟩ := hT.some _ e; rw [hu] at z; cases z)⟩
  have d13 := k13.tk
  have e3 : EvL H3 q (es ++ [.op m]) := ev_add (TpAll.tk tk12 _ _ tp) (.tup gT (.cons (.str _) (.cons (.str _) .nil))) hq3 (fun b xs h => (f3.1 b fun q => by rw [q] at h; exact f3.2 xs h).trans h)
  have hN3 := hN1.get k13 fun x hx z => (sub x hx).2.1 (List.mem_singleton.mp z)
  have hT3 := hT1.get k13 fun x hx z => qn (by rw [← List.mem_singleton.mp z]; exact List.mem_cons_of_mem _ (List.mem_append_right _ hx))
  refine h { A with ds := d :: A.ds } H4 rfl ?_ ⟨⟨dx, hA4⟩, ?_, ?_, ?_⟩ ?_ ?_
  · intro x hx
    rcases List.mem_cons.mp hx with e | hx
    · exact .inl (by rw [e]; exact List.mem_cons_self ..)
    rcases List.mem_append.mp hx with hx | hx
    · exact nest_fresh (K := K) (H' := H) (o := []) nd2 (fun x => x ∈ A.own ∨ H x = none) (fun x hx => .inl (List.mem_cons_of_mem _ (List.mem_append_left _ hx))) (fun z => .inr z) x hx
    · exact .inl (List.mem_cons_of_mem _ (List.mem_append_right _ hx))
  · exact hN3.get k34 fun x hx z => (sub x hx).1 (List.mem_singleton.mp z)
  · exact hT3.get k34 fun x hx z => n2 (by rw [← List.mem_singleton.mp z]; exact hx)
  · unfold ScA.own at nd ⊢
    rw [List.nodup_cons, List.nodup_append] at nd ⊢
    refine ⟨fun z => ?_, hN1.2.2.2, nd.2.2.1, fun x hx y hy z => (sub x hx).2.2 (by rw [z]; exact hy)⟩
    rcases List.mem_append.mp z with z | z
    · exact (sub _ z).1 rfl
    · exact n2 z
  · exact e3.get k34 (by simp [qa])
  · refine k34.ch (by simp [ScA.own]) (k13.ch (by simp) (Ch.mono k1 fun x hx => List.mem_cons_of_mem _ (List.mem_cons_of_mem _ (List.mem_append_left _ hx))))
end

section
variable {P : Program} {w : World} {K : PySem.W.Frag} {mg : Str → Option Value} {base : Heap} {f : Addr} {fd : FuncData}
theorem ok_BencodeScanner__close (F : FunD K "_close" "BencodeScanner._close" (defArgs s_BencodeScanner__close) (defBody s_BencodeScanner__close) (defScope s_BencodeScanner__close) [] [] (meAd "BencodeScanner" "_close" K) fd) (nb : Nm K mg) (m_Nest_inner : Met P w K mg base 1 (C_Nest K) "inner" (sp_Nest_inner K) []) (m_Nest_shrink : Met P w K mg base 1 (C_Nest K) "shrink" (sp_Nest_shrink K) []) (m_BencodeScanner__end_value : Met P w K mg base 2 (C_BencodeScanner K) "_end_value" (sp_BencodeScanner__end_value K) []) : Met P w K mg base 3 (C_BencodeScanner K) "_close" (sp_BencodeScanner__close K) [] := by
  refine metD F nb.cl_BencodeScanner nb.me_BencodeScanner__close sc_BencodeScanner__close (fun _ _ _ _ _ _ us hl => match us, hl with | [_, _], _ => rfl) len2 (fun cdv A outer s H vs Q E hr h => ⟨_, (pss_cons (ps_if (PW.pt (pw_or (pt_cmpR op_isN (pe_mt0 m_Nest_inner hr (by decide) (pe_fld (pv 0) rfl)) pe_non (nomark _)) (pw_or1 (pt_cmpR op_eq (pe_fld (pv 0) rfl) pe_str (nomark _)))))
    (pss_one (ps_ret pe_bl))
    pss_nil)
    (pss_cons (ps_expr (pe_mt0 m_Nest_shrink hr (by decide) (pe_fld (pv 0) rfl)))
    (pss_cons (ps_expr (pe_bm PySem.F.plainAttrs_list PySem.F.slot_list_append PySem.F.type_list_append mt_append (pv 1) (pa_cons (pe_tupE (pa_cons pe_str pa_nil)) pa_nil)))
    (pss_cons (ps_expr (pe_mt0 m_BencodeScanner__end_value hr (by decide) (pv 0)))
    (pss_one (ps_ret pe_bl)))))), ?_⟩)
  obtain ⟨_, _, rfl, A, s, q, es, rfl, rfl, hS, hl, hE, hes, qn, h⟩ := h
  obtain ⟨⟨dx, hA⟩, hN, hT, nd⟩ := id hS
  obtain ⟨vs, hq, tp⟩ := id hE
  obtain ⟨n1, n2, n3, n4⟩ := sca_nd nd
  obtain ⟨⟨dn, hn⟩, hL, hV, hD⟩ := id hN
  unfold scClose at h
  have qa : q ≠ A.a := fun e => qn (by rw [e]; exact List.mem_cons_self ..)
  have qns : q ∉ A.ns := fun e => qn (List.mem_cons_of_mem _ (List.mem_append_left _ e))
  walk_at "rf"
  refine ⟨_, rfl, A.n, A.ll, A.ds, s.lv, rfl, hN, by omega, ?_⟩
  cases hlv : s.lv with
  | nil =>
    rw [hlv] at h
    walk_at "rf"
    refine r_itep rfl ?_
    walk_at "rf"
    exact h A H rfl (fun x hx => .inl hx) hS ⟨vs, hq, by rw [List.append_nil]; exact tp⟩ Ch.refl
  | cons l r =>
    rw [hlv] at h hV
    obtain ⟨d, ds, ed⟩ := lv_cons hV
    rw [show kindV (l :: r) = .str (kindOf_ l.m) from rfl]
    walk_at "rf"
    refine r_iteN (fun e => by cases e) ?_
    walk_at "rf"
    refine r_ite (fun c => ?_) (fun c => ?_)
    · have h : ScEv K H A q es (if s.wt = "entry" then (false, [], s) else (true, [Ev.cl], scEndValue { s with lv := r })) Q := h
      rw [if_pos c] at h
      walk_at "rf"
      exact h A H rfl (fun x hx => .inl hx) hS ⟨vs, hq, by rw [List.append_nil]; exact tp⟩ Ch.refl
    have h : ScEv K H A q es (if s.wt = "entry" then (false, [], s) else (true, [Ev.cl], scEndValue { s with lv := r })) Q := h
    rw [if_neg c] at h
    have hNd : NsAt K H A.n A.ll (d :: ds) (l :: r) := by rw [← ed, ← hlv]; exact hN
    walk_at "rf"
    refine ⟨_, rfl, A.n, A.ll, d, ds, l, r, rfl, hNd, fun H1 hN1 k1 => ?_⟩
    rw [← ed] at k1
    have hA1 := k1.get n1 hA
    have hq1 := k1.get qns hq
    have hT1 := hT.get k1 n4
    walk_at "rf"
    refine ⟨tyL hq1, ?_⟩
    walk_at "rf"
    refine ⟨by show 1 ≤ sizeLine; decide, fun T H2 nT gT s2 => ?_⟩
    walk_at "rf"
    refine r_appE (s2 _ _ hq1) (by rw [evl_len tp]; exact small1000 (by omega)) fun H3 hq3 f3 => ?_
    have k13 : Ch [q] H1 H3 := by walk_at "ch"
    have e3 : EvL H3 q (es ++ [.cl]) := ev_add (TpAll.tk (k1.tk.trans (Same.tk s2)) _ _ tp) (.tup gT (.cons (.str _) .nil)) hq3 (fun b xs h => (f3.1 b fun q => by rw [q] at h; exact f3.2 xs h).trans h)
    have sub : ∀ x ∈ nsOwn A.n A.ll ds, x ∈ A.ns := fun x hx => by
      show x ∈ nsOwn A.n A.ll A.ds
      rw [ed]
      exact nest_sub x hx
    have hN3 := hN1.get k13 fun x hx z => qns (by rw [← List.mem_singleton.mp z]; exact sub x hx)
    have hT3 := hT1.get k13 fun x hx z => qn (by rw [← List.mem_singleton.mp z]; exact List.mem_cons_of_mem _ (List.mem_append_right _ hx))
    have hA3 := k13.get (by simp [Ne.symm qa]) hA1
    have nd3 : ({ A with ds := ds } : ScA).own.Nodup := by
      refine nd.sublist ?_
      unfold ScA.own ScA.ns
      rw [ed]
      exact List.Sublist.cons₂ _ (List.Sublist.append (List.Sublist.cons₂ _ (List.Sublist.cons₂ _ (List.sublist_cons_self ..))) (List.Sublist.refl _))
    walk_at "rf"
    refine ⟨_, rfl, { A with ds := ds }, { s with lv := r }, rfl, ⟨⟨dx, hA3⟩, hN3, hT3, nd3⟩, by show r.length ≤ 1000; rw [hlv] at hl; show r.length ≤ 1000; simp at hl; omega, fun H4 hS4 k4 => ?_⟩
    walk_at "rf"
    refine h { A with ds := ds } H4 rfl (fun x hx => .inl ?_) hS4 (e3.get k4 (by simp [qa])) ?_
    · rcases List.mem_cons.mp hx with e | hx
      · rw [e]; exact List.mem_cons_self ..
      rcases List.mem_append.mp hx with hx | hx
      · exact List.mem_cons_of_mem _ (List.mem_append_left _ (sub x hx))
      · exact List.mem_cons_of_mem _ (List.mem_append_right _ hx)
    · exact k4.ch (by simp [ScA.own]) (k13.ch (by simp) (Ch.mono k1 fun x hx => List.mem_cons_of_mem _ (List.mem_cons_of_mem _ (List.mem_append_left _ hx))))
theorem ok_BencodeScanner__begin_counted (F : FunD K "_begin_counted" "BencodeScanner._begin_counted" (defArgs s_BencodeScanner__begin_counted) (defBody s_BencodeScanner__begin_counted) (defScope s_BencodeScanner__begin_counted) [] [] (meAd "BencodeScanner" "_begin_counted" K) fd) (nb : Nm K mg) (m_Counted_take : Met P w K mg base 3 (C_Counted K) "take" (sp_Counted_take K) []) (m_BencodeKey_take : Met P w K mg base 4 (C_BencodeKey K) "take" (sp_BencodeKey_take K) []) : Met P w K mg base 5 (C_BencodeScanner K) "_begin_counted" (sp_BencodeScanner__begin_counted K) [] := by
  refine metD F nb.cl_BencodeScanner nb.me_BencodeScanner__begin_counted sc_BencodeScanner__begin_counted (fun _ _ _ _ _ _ us hl => match us, hl with | [_, _, _], _ => rfl) len3 (fun cdv A outer s H vs Q E hr h => ⟨_, (pss_cons (ps_fld (pv 0) (pv 1) rfl)
    (pss_one (ps_ret (pe_alt (pe_mt m_Counted_take hr (by decide) (pv 1) (pa_cons (pv 2) pa_nil)) (pe_mt m_BencodeKey_take hr (by decide) (pv 1) (pa_cons (pv 2) pa_nil)))))), ?_⟩)
  obtain ⟨_, t, _, rfl, A, s, T, k, b, rfl, ht, rfl, ⟨⟨dx, hA⟩, hN, hT, nd0⟩, hno, hk, ok, hor, nd, h⟩ := h
  obtain ⟨n1, n2, n3, n4⟩ := sca_nd nd
  have n1 : A.a ∉ A.ns := n1
  have n2 : A.a ∉ T.own := n2
  have n3 : ∀ x ∈ A.ns, x ∉ T.own := n3
  have n4 : ∀ x ∈ T.own, x ∉ A.ns := n4
  walk_at "rf"
  walk_at "fs"
  intro H1 hA1 f1
  have k1 : Ch [A.a] H H1 := by walk_at "ch"
  have hk1 := hk.get k1 fun x hx z => n2 (by rw [← List.mem_singleton.mp z]; exact hx)
  have hN1 := hN.get k1 fun x hx z => n1 (by rw [← List.mem_singleton.mp z]; exact hx)
  have fin : ∀ H2, TkAt K H2 T (tokTake k b).2 → Ch T.own H1 H2 → Q (.bl (tokTake k b).1) H2 := fun H2 hk2 k2 => by
    refine h H2 ⟨⟨dx, by rw [← ht]; exact k2.get n2 hA1⟩, hN1.get k2 n3, hk2, nd⟩ (k2.ch (fun x hx => .inl (List.mem_cons_of_mem _ hx)) (k1.mono (by simp)))
  walk_at "rf"
  rcases hor with rfl | rfl
  · cases T with
    | no => exact hk1.elim
    | num a q => exact hk1.elim
    | cnt a q => exact hk1.elim
    | key a c cl u ul =>
      obtain ⟨dk, hka, _⟩ := id (show BkAt K H1 a c cl u ul bk0 from hk1)
      have ht : t = .ref a := ht
      subst ht
      refine .inr ?_
      walk_at "rf"
      exact ⟨_, _, rfl, a, c, cl, u, ul, bk0, b, rfl, rfl, hk1, ok, fun H2 hk2 k2 => fin H2 hk2 k2⟩
  · cases T with
    | no => exact hk1.elim
    | num a q => exact hk1.elim
    | key a c cl u ul => exact hk1.elim
    | cnt c cl =>
      obtain ⟨dk, hka, _⟩ := id (show CtAt K H1 c cl ct0 from hk1)
      have ht : t = .ref c := ht
      subst ht
      refine .inl ?_
      walk_at "rf"
      exact ⟨_, _, rfl, c, cl, ct0, b, rfl, rfl, hk1, ok.1, ok.2, fun H2 hk2 k2 => fin H2 hk2 k2⟩
theorem ok_BencodeScanner_end (F : FunD K "end" "BencodeScanner.end" (defArgs s_BencodeScanner_end) (defBody s_BencodeScanner_end) (defScope s_BencodeScanner_end) [] [] (meAd "BencodeScanner" "end" K) fd) (nb : Nm K mg) : Met P w K mg base 1 (C_BencodeScanner K) "end" (sp_BencodeScanner_end K) [] := by
  refine metD F nb.cl_BencodeScanner nb.me_BencodeScanner_end sc_BencodeScanner_end (fun _ _ _ _ _ _ us hl => match us, hl with | [_], _ => rfl) len1 (fun cdv A outer s H vs Q E hr h => ⟨_, (pss_cons (ps_if (pt_cmpR op_ne (pe_fld (pv 0) rfl) pe_str (nomark _))
    (pss_one ps_never)
    pss_nil)
    (pss_one (ps_ret (pe_lstE pa_nil)))), ?_⟩)
  obtain ⟨_, rfl, A, s, rfl, ⟨⟨dx, hA⟩, hN, hT, nd⟩, hw, h⟩ := h
  walk_at "rf"
  refine r_no hw ?_
  walk_at "rf"
  exact ⟨by show 0 ≤ sizeLine; decide, fun q H2 nq g2 s2 => h q H2 nq g2 s2⟩
theorem ok_BencodeScanner_step (F : FunD K "step" "BencodeScanner.step" (defArgs s_BencodeScanner_step) (defBody s_BencodeScanner_step) (defScope s_BencodeScanner_step) [] [] (meAd "BencodeScanner" "step" K) fd) (nb : Nm K mg) (m_BencodeScanner__take : Met P w K mg base 7 (C_BencodeScanner K) "_take" (sp_BencodeScanner__take K) []) : Met P w K mg base 8 (C_BencodeScanner K) "step" (sp_BencodeScanner_step K) [] := by
  refine metD F nb.cl_BencodeScanner nb.me_BencodeScanner_step sc_BencodeScanner_step (fun _ _ _ _ _ _ us hl => match us, hl with | [_, _], _ => rfl) len2 (fun cdv A outer s H vs Q E hr h => ⟨_, (pss_cons (ps_set (i := 2) sc_BencodeScanner_step.nd rfl (Or.inl rfl) (pe_lstE pa_nil))
    (pss_cons (ps_if (pt_not (pt_val (pe_mt m_BencodeScanner__take hr (by decide) (pv 0) (pa_cons (pv 1) (pa_cons (pv 2) pa_nil)))))
    (pss_one ps_never)
    pss_nil)
    (pss_cons (ps_fld (pv 0) (pe_op op_add (pe_fld (pv 0) rfl) pe_int) rfl)
    (pss_one (ps_ret (pv 2)))))), ?_⟩)
  obtain ⟨_, _, rfl, A, s, b, rfl, rfl, hS, hW, hok, h⟩ := h
  obtain ⟨⟨dx, hA⟩, hN, hT, nd⟩ := id hS
  walk_at "rf"
  refine ⟨by show 0 ≤ sizeLine; decide, fun q H1 nq gq s1 => ?_⟩
  have k1 : Ch [] H H1 := Ch.same s1 Ch.refl
  have hS1 := hS.get k1 (by simp)
  have hA1 := s1 _ _ hA
  have own1 := hS.some
  walk_at "rf"
  refine ⟨_, _, _, rfl, A, s, b, q, [], rfl, rfl, rfl, hS1, hW, ⟨[], gq, .nil⟩, Nat.zero_le _, fun z => ?_, ?_⟩
  · obtain ⟨u, hu⟩ := own1 q z
    rw [nq] at hu
    cases hu
  intro A' H2 ea fr hS2 hE2 k2
  rw [hok]
  obtain ⟨⟨dx2, hA2⟩, hN2, hT2, nd2⟩ := id hS2
  rw [ea] at hA2
  obtain ⟨m1, m2, m3, m4⟩ := sca_nd nd2
  walk_at "rf"
  walk_at "fs"
  intro H3 hA3 f3
  have k3 : Ch [A'.a] H2 H3 := by
    rw [ea]
    walk_at "ch"
  have fr2 : ∀ x ∈ A'.own, x ∈ A.own ∨ H x = none := fun x hx => (fr x hx).imp id fun z => s1.free z
  have qn : q ∉ A'.own := fun z => by
    rcases fr q z with e | e
    · obtain ⟨u, hu⟩ := own1 q e
      rw [nq] at hu
      cases hu
    · rw [gq] at e
      cases e
  walk_at "rf"
  refine h A' q H3 ea fr2 ⟨⟨dx2, ?_⟩, hN2.get k3 (fun x hx z => m1 (by rw [← List.mem_singleton.mp z]; exact hx)), hT2.get k3 (fun x hx z => m2 (by rw [← List.mem_singleton.mp z]; exact hx)), nd2⟩ (hE2.get k3 fun z => qn (by rw [List.mem_singleton.mp z]; exact List.mem_cons_self ..)) nq qn ?_
  · show H3 A'.a = some (HO.ins _ _ (fs_BencodeScanner (.int (((scTake s b).2.2.pl + 1 : Nat) : Int)) _ _ _))
    have e : (((scTake s b).2.2.pl + 1 : Nat) : Int) = ((scTake s b).2.2.pl : Int) + 1 := by omega
    rw [e, ea]
    exact hA3
  · refine k3.ch (fun x hx => ?_) (k2.ch (fun x hx => ?_) (Ch.same s1 Ch.refl))
    · rw [List.mem_singleton.mp hx, ea]
      exact .inl (List.mem_cons_self ..)
    · rcases List.mem_cons.mp hx with e | e
      · rw [e]; exact .inr nq
      · exact .inl e
end

section
variable {P : Program} {w : World} {K : PySem.W.Frag} {mg : Str → Option Value} {base : Heap} {f : Addr} {fd : FuncData}
theorem ok_BencodeScanner__end_token (F : FunD K "_end_token" "BencodeScanner._end_token" (defArgs s_BencodeScanner__end_token) (defBody s_BencodeScanner__end_token) (defScope s_BencodeScanner__end_token) [] [] (meAd "BencodeScanner" "_end_token" K) fd) (nb : Nm K mg) (m_Counted_leaf : Met P w K mg base 1 (C_Counted K) "leaf" (sp_Counted_leaf K) []) (m_BencodeNumber_leaf : Met P w K mg base 3 (C_BencodeNumber K) "leaf" (sp_BencodeNumber_leaf K) []) (m_BencodeKey_leaf : Met P w K mg base 1 (C_BencodeKey K) "leaf" (sp_BencodeKey_leaf K) []) (m_Nest_note_key : Met P w K mg base 1 (C_Nest K) "note_key" (sp_Nest_note_key K) []) (m_BencodeScanner__end_value : Met P w K mg base 2 (C_BencodeScanner K) "_end_value" (sp_BencodeScanner__end_value K) []) : Met P w K mg base 4 (C_BencodeScanner K) "_end_token" (sp_BencodeScanner__end_token K) [] := by
  refine metD F nb.cl_BencodeScanner nb.me_BencodeScanner__end_token sc_BencodeScanner__end_token (fun _ _ _ _ _ _ us hl => match us, hl with | [_, _], _ => rfl) len2 (fun cdv A outer s H vs Q E hr h => ⟨_, (pss_cut (ps_set (i := 2) sc_BencodeScanner__end_token.nd rfl (Or.inl rfl) (pe_alt (pe_mt0 m_Counted_leaf hr (by decide) (pe_fld (pv 0) rfl)) (pe_alt (pe_mt0 m_BencodeNumber_leaf hr (by decide) (pe_fld (pv 0) rfl)) (pe_mt0 m_BencodeKey_leaf hr (by decide) (pe_fld (pv 0) rfl)))))
    (pss_cons (ps_fld (pv 0) pe_non rfl)
    (pss_cons (ps_if (pt_cmpR op_ne (pe_fld (pv 0) rfl) pe_str (nomark _))
    (pss_cons (ps_expr (pe_bm PySem.F.plainAttrs_list PySem.F.slot_list_append PySem.F.type_list_append mt_append (pv 1) (pa_cons (pe_tupE (pa_cons pe_str (pa_cons (pv 2) pa_nil))) pa_nil)))
    (pss_cons (ps_expr (pe_mt0 m_BencodeScanner__end_value hr (by decide) (pv 0)))
    (pss_one (ps_ret pe_bl))))
    pss_nil)
    (pss_cons (ps_expr (pe_bm PySem.F.plainAttrs_list PySem.F.slot_list_append PySem.F.type_list_append mt_append (pv 1) (pa_cons (pe_tupE (pa_cons pe_str (pa_cons (pe_ix ix_tup (pv 2) pe_int (fun _ _ => rfl)) pa_nil))) pa_nil)))
    (pss_cons (ps_fld (pv 0) pe_str rfl)
    (pss_one (ps_ret (pe_mt m_Nest_note_key hr (by decide) (pe_fld (pv 0) rfl) (pa_cons (pe_ix ix_tup (pv 2) pe_int (fun _ _ => rfl)) pa_nil))))))))), ?_⟩)
  obtain ⟨_, _, rfl, A, s, q, es, rfl, rfl, hS, hW, hno, hE, hes, qn, h⟩ := h
  obtain ⟨⟨dx, hA⟩, hN, hT, nd⟩ := id hS
  obtain ⟨vs, hq, tp⟩ := id hE
  obtain ⟨n1, n2, n3, n4⟩ := sca_nd nd
  obtain ⟨⟨dn, hn⟩, hL, hV, hD⟩ := id hN
  obtain ⟨w2, w3, w4, w5⟩ := hW
  have qa : q ≠ A.a := fun e => qn (by rw [e]; exact List.mem_cons_self ..)
  have qns : q ∉ A.ns := fun e => qn (List.mem_cons_of_mem _ (List.mem_append_left _ e))
  have qt : q ∉ A.t.own := fun e => qn (List.mem_cons_of_mem _ (List.mem_append_right _ e))
  have nd0 : ({ A with t := .no } : ScA).own.Nodup := by
    unfold ScA.own at nd ⊢
    rw [List.nodup_cons, List.nodup_append] at nd
    rw [List.nodup_cons]
    refine ⟨fun z => ?_, ?_⟩
    · rcases List.mem_append.mp z with z | z
      · exact nd.1 (List.mem_append_left _ z)
      · exact absurd z (by simp [TkA.own])
    · show (A.ns ++ []).Nodup
      rw [List.append_nil]
      exact nd.2.1
  have sub0 : ∀ x ∈ ({ A with t := .no } : ScA).own, x ∈ A.own := fun x hx => by
    rcases List.mem_cons.mp hx with e | hx
    · rw [e]; exact List.mem_cons_self ..
    rcases List.mem_append.mp hx with hx | hx
    · exact List.mem_cons_of_mem _ (List.mem_append_left _ hx)
    · simp [TkA.own] at hx
  have dT := hT
  walk_at "rg"
  refine r_cut (fun σ H1 => ∃ lf : V, σ = [some (.ref A.a), some (.ref q), some lf] ∧ Same H H1 ∧ ((s.wt ≠ "key" ∧ ∃ k r, scEndToken s = (true, [.lf k r], scEndValue { s with tk := .no }) ∧ Tp H1 lf (.tuple (.str k :: r))) ∨
    (s.wt = "key" ∧ ∃ k, s.tk = .key k ∧ Tp H1 lf (.tuple [.str "text", kd k.u.ps])))) ?_ ?_
  · walk_at "rf"
    cases hk : s.tk with
    | no => exact absurd hk hno
    | num n =>
      have hw : s.wt ≠ "key" := by
        unfold scWant at w2
        rw [hk] at w2
        exact w2
      have es : scEndToken s = (true, [.lf "number" [.int (bnPair n).1, .int (bnPair n).2]], scEndValue { s with tk := .no }) := by
        unfold scEndToken
        rw [hk]
      rw [hk] at hT
      cases hAt : A.t with
      | no => rw [hAt] at hT; exact hT.elim
      | cnt c cl => rw [hAt] at hT; exact hT.elim
      | key a c cl u ul => rw [hAt] at hT; exact hT.elim
      | num a b =>
        rw [hAt] at hT
        have hT : BnAt K H a b n := hT
        obtain ⟨dk, hka, _⟩ := id hT
        refine .inr (.inl ?_)
        rw [hAt] at hA
        have hA : H A.a = some (.ins (C_BencodeScanner K) dx (fs_BencodeScanner (.int s.pl) (.str s.wt) (.ref A.n) (.ref a))) := hA
        walk_at "rf"
        exact ⟨_, rfl, a, b, n, rfl, hT, fun p H1 tp s1 => ⟨p, rfl, s1, .inl ⟨hw, _, _, es, tp⟩⟩⟩
    | cnt n =>
      have hw : s.wt ≠ "key" := by
        unfold scWant at w2
        rw [hk] at w2
        exact w2
      have es : scEndToken s = (true, [.lf "bytes" [kd n.os]], scEndValue { s with tk := .no }) := by
        unfold scEndToken
        rw [hk]
      rw [hk] at hT
      cases hAt : A.t with
      | no => rw [hAt] at hT; exact hT.elim
      | num c cl => rw [hAt] at hT; exact hT.elim
      | key a c cl u ul => rw [hAt] at hT; exact hT.elim
      | cnt a b =>
        rw [hAt] at hT
        have hT : CtAt K H a b n := hT
        obtain ⟨dk, hka, _⟩ := id hT
        refine .inl ?_
        rw [hAt] at hA
        have hA : H A.a = some (.ins (C_BencodeScanner K) dx (fs_BencodeScanner (.int s.pl) (.str s.wt) (.ref A.n) (.ref a))) := hA
        walk_at "rf"
        exact ⟨_, rfl, a, b, n, rfl, hT, fun p H1 tp s1 => ⟨p, rfl, s1, .inl ⟨hw, _, _, es, tp⟩⟩⟩
    | key n =>
      have hw : s.wt = "key" := by
        unfold scWant at w2
        rw [hk] at w2
        exact w2
      rw [hk] at hT
      cases hAt : A.t with
      | no => rw [hAt] at hT; exact hT.elim
      | num c cl => rw [hAt] at hT; exact hT.elim
      | cnt c cl => rw [hAt] at hT; exact hT.elim
      | key a c cl u ul =>
        rw [hAt] at hT
        have hT : BkAt K H a c cl u ul n := hT
        obtain ⟨dk, hka, _⟩ := id hT
        refine .inr (.inr ?_)
        rw [hAt] at hA
        have hA : H A.a = some (.ins (C_BencodeScanner K) dx (fs_BencodeScanner (.int s.pl) (.str s.wt) (.ref A.n) (.ref a))) := hA
        walk_at "rf"
        exact ⟨_, rfl, a, c, cl, u, ul, n, rfl, hT, fun p H1 tp s1 => ⟨p, rfl, s1, .inr ⟨hw, n, rfl, tp⟩⟩⟩
  · rintro σ H1 ⟨lf, rfl, s1, hlf⟩
    have hA1 := s1 _ _ hA
    have hq1 := s1 _ _ hq
    walk_at "rf"
    walk_at "fs"
    intro H2 hA2 f2
    have k12 : Ch [A.a] H1 H2 := by walk_at "ch"
    have k2 : Ch [A.a] H H2 := by walk_at "ch"
    have hN2 := hN.get k2 fun x hx z => n1 (by rw [← List.mem_singleton.mp z]; exact hx)
    have hq2 := k2.get (x := q) (by simp [qa]) hq
    obtain ⟨⟨dn2, hn2⟩, hL2, hV2, hD2⟩ := id hN2
    walk_at "rf"
    refine r_iten (fun c => ?_) (fun c => ?_)
    · obtain ⟨hw, k, r, eT, tlf⟩ := hlf.resolve_right fun z => c z.1
      rw [eT] at h
      have tlf2 := Tp.tk k12.tk _ _ tlf
      walk_at "rf"
      refine ⟨tyL hq2, ?_⟩
      walk_at "rf"
      refine ⟨by show 2 ≤ sizeLine; decide, fun T H3 nT gT s3 => ?_⟩
      walk_at "rf"
      refine r_appE (s3 _ _ hq2) (by rw [evl_len tp]; exact small1000 (by omega)) fun H4 hq4 f4 => ?_
      have k24 : Ch [q] H2 H4 := by walk_at "ch"
      have e4 : EvL H4 q (es ++ [.lf k r]) := ev_add (TpAll.tk (k2.tk.trans (Same.tk s3)) _ _ tp) (.tup gT (.cons (.str _) (.cons (Tp.tk (Same.tk s3) _ _ tlf2) .nil))) hq4 (fun b xs h => (f4.1 b fun q => by rw [q] at h; exact f4.2 xs h).trans h)
      have hA4 := k24.get (x := A.a) (by simp [Ne.symm qa]) hA2
      have hN4 := hN2.get k24 fun x hx z => qns (by rw [← List.mem_singleton.mp z]; exact hx)
      walk_at "rf"
      refine ⟨_, rfl, { A with t := .no }, { s with tk := .no }, rfl, ⟨⟨dx, hA4⟩, hN4, trivial, nd0⟩, by show s.lv.length ≤ 1000; omega, fun H5 hS5 k5 => ?_⟩
      walk_at "rf"
      refine h { A with t := .no } H5 rfl (fun x hx => .inl (sub0 x hx)) hS5 (e4.get k5 (by simp [qa])) ?_
      exact k5.ch (by simp [ScA.own]) (k24.ch (by simp) (k2.mono (by simp [ScA.own])))
    · obtain ⟨hw, k, hk, tlf⟩ := hlf.resolve_left fun z => z.1 c
      have eT : scEndToken s = (scFresh s.lv k.u.ps, [.ky k.u.ps], { s with tk := .no, wt := "entry", lv := scNote s.lv k.u.ps }) := by
        unfold scEndToken
        rw [hk]
      rw [eT] at h
      have tlf2 := Tp.tk k12.tk _ _ tlf
      obtain ⟨b, xs, rfl, hb, hxs⟩ := tp_tup tlf2
      obtain ⟨y1, y2, rfl, t1, t2⟩ : ∃ y1 y2, xs = [y1, y2] ∧ Tp H2 y1 (.str "text") ∧ Tp H2 y2 (kd k.u.ps) := by
        cases hxs with
        | cons h1 r => cases r with
          | cons h2 r => cases r with
            | nil => exact ⟨_, _, rfl, h1, h2⟩
      obtain ⟨kb, rfl, hkb⟩ := tp_kdB t2
      walk_at "rf"
      refine ⟨tyL hq2, ?_⟩
      walk_at "rf"
      refine r_ixT (SqT.of hb) rfl ?_
      walk_at "rf"
      refine ⟨by show 2 ≤ sizeLine; decide, fun T H3 nT gT s3 => ?_⟩
      walk_at "rf"
      refine r_appE (s3 _ _ hq2) (by rw [evl_len tp]; exact small1000 (by omega)) fun H4 hq4 f4 => ?_
      have k24 : Ch [q] H2 H4 := by walk_at "ch"
      have e4 : EvL H4 q (es ++ [.ky k.u.ps]) := ev_add (TpAll.tk (k2.tk.trans (Same.tk s3)) _ _ tp) (.tup gT (.cons (.str _) (.cons (Tp.tk (Same.tk s3) _ _ t2) .nil))) hq4 (fun b xs h => (f4.1 b fun q => by rw [q] at h; exact f4.2 xs h).trans h)
      have hA4 := k24.get (x := A.a) (by simp [Ne.symm qa]) hA2
      have hN4 := hN2.get k24 fun x hx z => qns (by rw [← List.mem_singleton.mp z]; exact hx)
      walk_at "rf"
      walk_at "fs"
      intro H5 hA5 f5
      have k45 : Ch [A.a] H4 H5 := by walk_at "ch"
      have hN5 := hN4.get k45 fun x hx z => n1 (by rw [← List.mem_singleton.mp z]; exact hx)
      have hb5 := k45.tup (k24.tup hb)
      have hkb5 := k45.tup (k24.tup hkb)
      have e5 := e4.get k45 (by simp [qa])
      obtain ⟨⟨dn5, hn5⟩, hL5, hV5, hD5⟩ := id hN5
      have k5 : Ch (q :: A.own) H H5 := k45.ch (by simp [ScA.own]) (k24.ch (by simp) (k2.mono (by simp [ScA.own])))
      walk_at "rf"
      refine r_ixT (SqT.of hb5) rfl ?_
      walk_at "rf"
      cases hlv : s.lv with
      | nil => exact absurd hlv (w3 hw)
      | cons l r =>
        rw [hlv] at hN5 hV5
        obtain ⟨d, ds, ed⟩ := lv_cons hV5
        rw [hlv] at h
        rw [ed] at hN5
        refine ⟨_, _, rfl, A.n, A.ll, d, ds, l, r, kb, k.u.ps, rfl, rfl, hkb5, hN5, w5 l (by rw [hlv]; simp), fun cm => ?_, fun cm H6 hN6 k6 => ?_⟩
        · have e1 : scFresh (l :: r) k.u.ps = false := by simp [scFresh, cm]
          have e2 : scNote (l :: r) k.u.ps = l :: r := by simp [scNote, cm]
          rw [e1, e2] at h
          exact h { A with t := .no } H5 rfl (fun x hx => .inl (sub0 x hx)) ⟨⟨dx, hA5⟩, by rw [ed]; exact hN5, trivial, nd0⟩ e5 k5
        · have e1 : scFresh (l :: r) k.u.ps = true := by simp [scFresh, cm]
          have e2 : scNote (l :: r) k.u.ps = ⟨l.m, l.ks ++ [k.u.ps]⟩ :: r := by simp [scNote, cm]
          rw [e1, e2] at h
          rw [← ed] at hN6 k6
          exact h { A with t := .no } H6 rfl (fun x hx => .inl (sub0 x hx)) ⟨⟨dx, k6.get n1 hA5⟩, hN6, trivial, nd0⟩ (e5.get k6 qns) (k6.ch (fun x hx => .inl (List.mem_cons_of_mem _ (List.mem_cons_of_mem _ (List.mem_append_left _ hx)))) k5)
end

section
variable {P : Program} {w : World} {K : PySem.W.Frag} {mg : Str → Option Value} {base : Heap} {f : Addr} {fd : FuncData}
theorem d_nest {H : Hp} {R : Addr → Hp → Prop} {E : XK} (h : ∀ a l H', H a = none → H l = none → NsAt K H' a l [] [] → Same H H' → R a H') : ∀ x dx, H x = none → H dx = none → dx ≠ x → sp_Nest___init__ K (.ref x :: ([] ++ [])) (upd (upd H dx (.own x)) x (.ins (C_Nest K) dx [])) (fun v H2 => v = .non ∧ R x H2) E := fun a dx ha hd hne =>
  ⟨_, rfl, a, dx, rfl, upd_same, fun q H' nq hN c => ⟨rfl, h a q H' ha (mk_free nq) hN (mk_same ha hd c)⟩⟩
theorem d_bscan {H : Hp} {R : Addr → Hp → Prop} {E : XK} (h : ∀ A H', (∀ x ∈ A.own, H x = none) → ScAt K H' A sc0 → Same H H' → R A.a H') : ∀ x dx, H x = none → H dx = none → dx ≠ x → sp_BencodeScanner___init__ K (.ref x :: ([] ++ [])) (upd (upd H dx (.own x)) x (.ins (C_BencodeScanner K) dx [])) (fun v H2 => v = .non ∧ R x H2) E := fun a dx ha hd hne =>
  ⟨_, rfl, a, dx, rfl, upd_same, fun A H' ea fr hS c => ⟨rfl, by
    rw [← ea]
    refine h A H' (fun x hx => ?_) hS (mk_same ha hd c)
    rcases fr x hx with e | e
    · rw [e]; exact ha
    · exact mk_free e⟩⟩
theorem ok_BencodeScanner___init__ (F : FunD K "__init__" "BencodeScanner.__init__" (defArgs s_BencodeScanner___init__) (defBody s_BencodeScanner___init__) (defScope s_BencodeScanner___init__) [] [] (meAd "BencodeScanner" "__init__" K) fd) (nb : Nm K mg) (k_Nest : Mak P w K mg base 1 "Nest" (C_Nest K) (sp_Nest___init__ K) []) : Mak P w K mg base 3 "BencodeScanner" (C_BencodeScanner K) (sp_BencodeScanner___init__ K) [] := by
  refine makD F nb.mk_BencodeScanner nb.g_BencodeScanner sc_BencodeScanner___init__ (fun _ _ _ _ _ _ us hl => match us, hl with | [_], _ => rfl) len1 (fun cdv A outer s H vs Q E hr h => ⟨_, (pss_cons (ps_fld (pv 0) pe_int rfl)
    (pss_cons (ps_fld (pv 0) pe_str rfl)
    (pss_cons (ps_fld (pv 0) (pe_mk0 k_Nest hr (by decide) rfl) rfl)
    (pss_one (ps_fld (pv 0) pe_non rfl))))), ?_⟩)
  obtain ⟨_, rfl, a, dx, rfl, hA, h⟩ := h
  walk_at "rf"
  refine r_fsetE hA nb.cl_BencodeScanner nb.na_BencodeScanner__place (by decide) (in_BencodeScanner__place) fun H1 hA1 f1 => ?_
  walk_at "rf"
  refine r_fsetE hA1 nb.cl_BencodeScanner nb.na_BencodeScanner__wanted (by simp) (in_BencodeScanner__wanted) fun H2 hA2 f2 => ?_
  walk_at "rf"
  refine d_nest fun n l H3 nn nl hN s3 => ?_
  have an : a ≠ n := Same.ne nn hA2
  have al : a ≠ l := Same.ne nl hA2
  walk_at "rf"
  refine r_fsetE (s3 _ _ hA2) nb.cl_BencodeScanner nb.na_BencodeScanner__nest (by simp) (in_BencodeScanner__nest) fun H4 hA4 f4 => ?_
  walk_at "rf"
  refine r_fsetE hA4 nb.cl_BencodeScanner nb.na_BencodeScanner__token (by simp) (in_BencodeScanner__token) fun H5 hA5 f5 => ?_
  have k35 : Ch [a] H3 H5 := by walk_at "ch"
  have fr : ∀ x, H2 x = none → x ≠ a → H x = none := fun x hx hn => by
    rw [← f1.1 x hn, ← f2.1 x hn]
    exact hx
  have hnl := hN.2.2.2
  unfold nsOwn at hnl
  refine h ⟨a, n, l, [], .no⟩ H5 rfl (fun x hx => ?_) ⟨⟨dx, hA5⟩, hN.get k35 (fun x hx z => ?_), trivial, ?_⟩ (by walk_at "ch")
  · have hx : x ∈ [a, n, l] := by simpa [ScA.own, ScA.ns, nsOwn, TkA.own] using hx
    simp at hx
    rcases hx with e | e | e
    · exact .inl e
    · exact .inr (by rw [e]; exact fr n nn (Ne.symm an))
    · exact .inr (by rw [e]; exact fr l nl (Ne.symm al))
  · have z := List.mem_singleton.mp z
    rw [z] at hx
    simp [nsOwn, an, al] at hx
  · simp [ScA.own, ScA.ns, nsOwn, TkA.own, an, al] at hnl ⊢
    exact hnl
theorem ok_BencodeScanner__take (F : FunD K "_take" "BencodeScanner._take" (defArgs s_BencodeScanner__take) (defBody s_BencodeScanner__take) (defScope s_BencodeScanner__take) [] [] (meAd "BencodeScanner" "_take" K) fd) (nb : Nm K mg) (m_Counted_take : Met P w K mg base 3 (C_Counted K) "take" (sp_Counted_take K) []) (m_BencodeNumber_take : Met P w K mg base 3 (C_BencodeNumber K) "take" (sp_BencodeNumber_take K) []) (m_BencodeKey_take : Met P w K mg base 4 (C_BencodeKey K) "take" (sp_BencodeKey_take K) []) (m_BencodeScanner__end_token : Met P w K mg base 4 (C_BencodeScanner K) "_end_token" (sp_BencodeScanner__end_token K) []) (m_BencodeScanner__take_mark : Met P w K mg base 6 (C_BencodeScanner K) "_take_mark" (sp_BencodeScanner__take_mark K) []) : Met P w K mg base 7 (C_BencodeScanner K) "_take" (sp_BencodeScanner__take K) [] := by
  refine metD F nb.cl_BencodeScanner nb.me_BencodeScanner__take sc_BencodeScanner__take (fun _ _ _ _ _ _ us hl => match us, hl with | [_, _, _], _ => rfl) len3 (fun cdv A outer s H vs Q E hr h => ⟨_, (pss_cons (ps_if (pt_cmpR op_isN (pe_fld (pv 0) rfl) pe_non (nomark _))
    (pss_one (ps_ret (pe_mt m_BencodeScanner__take_mark hr (by decide) (pv 0) (pa_cons (pv 1) (pa_cons (pv 2) pa_nil)))))
    pss_nil)
    (pss_cut (ps_if (pt_not (pt_val (pe_alt (pe_mt m_Counted_take hr (by decide) (pe_fld (pv 0) rfl) (pa_cons (pv 1) pa_nil)) (pe_alt (pe_mt m_BencodeNumber_take hr (by decide) (pe_fld (pv 0) rfl) (pa_cons (pv 1) pa_nil)) (pe_mt m_BencodeKey_take hr (by decide) (pe_fld (pv 0) rfl) (pa_cons (pv 1) pa_nil))))))
    (pss_one (ps_ret pe_bl))
    pss_nil)
    (pss_one (ps_ret (pe_or (pe_not (pe_fld (pe_fld (pv 0) rfl) rfl)) (pe_one (pe_mt m_BencodeScanner__end_token hr (by decide) (pv 0) (pa_cons (pv 2) pa_nil)))))))), ?_⟩)
  obtain ⟨_, _, _, rfl, A, s, b, q, es, rfl, rfl, rfl, hS, hW, hE, hes, qn, h⟩ := h
  obtain ⟨⟨dx, hA⟩, hN, hT, nd⟩ := id hS
  obtain ⟨vs, hq, tp⟩ := id hE
  obtain ⟨n1, n2, n3, n4⟩ := sca_nd nd
  have hW' := hW
  obtain ⟨w1, w2, w3, w4, w5⟩ := hW
  have qt : q ∉ A.t.own := fun e => qn (List.mem_cons_of_mem _ (List.mem_append_right _ e))
  unfold scTake at h
  by_cases hno : s.tk = .no
  · rw [hno] at h hT
    have hAt : A.t = .no := by
      cases e : A.t <;> rw [e] at hT <;> first | rfl | exact hT.elim
    rw [hAt] at hA
    have hA : H A.a = some (.ins (C_BencodeScanner K) dx (fs_BencodeScanner (.int s.pl) (.str s.wt) (.ref A.n) .non)) := hA
    walk_at "rf"
    refine r_itep rfl ?_
    walk_at "rf"
    exact ⟨_, _, _, rfl, A, s, b, q, es, rfl, rfl, rfl, hS, hW', hno, hE, hes, qn, h⟩
  have h : ScEv K H A q es (scGo s b) Q := by
    cases hk : s.tk with
    | no => exact absurd hk hno
    | num n => rw [hk] at h; exact h
    | key n => rw [hk] at h; exact h
    | cnt n => rw [hk] at h; exact h
  unfold scGo at h
  obtain ⟨t, ht⟩ : ∃ t, A.t.v = .ref t := by
    cases e : A.t with
    | no =>
      rw [e] at hT
      cases hk : s.tk with
      | no => exact absurd hk hno
      | num n => rw [hk] at hT; exact hT.elim
      | key n => rw [hk] at hT; exact hT.elim
      | cnt n => rw [hk] at hT; exact hT.elim
    | num a q => exact ⟨a, rfl⟩
    | key a c cl u ul => exact ⟨a, rfl⟩
    | cnt a q => exact ⟨a, rfl⟩
  rw [ht] at hA
  /- what the token's own step leaves -/
  have fin : ∀ H1, TkAt K H1 A.t (tokTake s.tk b).2 → Ch A.t.own H H1 → ScAt K H1 A { s with tk := (tokTake s.tk b).2 } ∧ EvL H1 q es ∧ Ch (q :: A.own) H H1 := fun H1 hk1 k1 => by
    refine ⟨⟨⟨dx, ?_⟩, hN.get k1 n3, hk1, nd⟩, hE.get k1 qt, k1.mono fun x hx => List.mem_cons_of_mem _ (List.mem_cons_of_mem _ (List.mem_append_right _ hx))⟩
    rw [ht]
    exact k1.get n2 hA
  have wt : scWant { s with tk := (tokTake s.tk b).2 } := by
    unfold scWant at w2 ⊢
    cases hk : s.tk <;> rw [hk] at w2 <;> exact w2
  walk_at "rf"
  refine r_iteN (fun e => by cases e) ?_
  walk_at "rg"
  refine r_cut (fun σ H1 => (tokTake s.tk b).1 = true ∧ TkAt K H1 A.t (tokTake s.tk b).2 ∧ Ch A.t.own H H1 ∧ σ = [some (.ref A.a), some (.int b), some (.ref q)]) ?_ ?_
  · have out : ∀ H1, TkAt K H1 A.t (tokTake s.tk b).2 → Ch A.t.own H H1 → (tokTake s.tk b).1 = false → Q (.bl false) H1 := fun H1 hk1 k1 e => by
      rw [if_pos e] at h
      obtain ⟨x1, x2, x3⟩ := fin H1 hk1 k1
      exact h A H1 rfl (fun x hx => .inl hx) x1 (by rw [List.append_nil]; exact x2) x3
    walk_at "rf"
    cases hk : s.tk with
    | no => exact absurd hk hno
    | num n =>
      rw [hk] at hT out
      cases hAt : A.t with
      | no => rw [hAt] at hT; exact hT.elim
      | cnt c cl => rw [hAt] at hT; exact hT.elim
      | key a c cl u ul => rw [hAt] at hT; exact hT.elim
      | num a b2 =>
        rw [hAt] at hT ht out
        have ht : a = t := V.ref.inj ht
        subst ht
        have hT : BnAt K H a b2 n := hT
        obtain ⟨dk, hka, _⟩ := id hT
        refine .inr (.inl ?_)
        walk_at "rf"
        refine ⟨_, _, rfl, a, b2, n, b, rfl, rfl, hT, fun H1 hk1 k1 => ?_⟩
        refine ⟨_, rfl, ?_⟩
        cases e : (bnTake n b).1 with
        | false =>
          walk_at "rf"
          exact out H1 hk1 k1 e
        | true =>
          walk_at "rf"
          exact ⟨e, hk1, k1, rfl⟩
    | cnt n =>
      rw [hk] at hT out w1
      cases hAt : A.t with
      | no => rw [hAt] at hT; exact hT.elim
      | num c cl => rw [hAt] at hT; exact hT.elim
      | key a c cl u ul => rw [hAt] at hT; exact hT.elim
      | cnt a b2 =>
        rw [hAt] at hT ht out
        have ht : a = t := V.ref.inj ht
        subst ht
        have hT : CtAt K H a b2 n := hT
        obtain ⟨dk, hka, _⟩ := id hT
        refine .inl ?_
        walk_at "rf"
        refine ⟨_, _, rfl, a, b2, n, b, rfl, rfl, hT, w1.1, w1.2, fun H1 hk1 k1 => ?_⟩
        refine ⟨_, rfl, ?_⟩
        cases e : (ctTake n b).1 with
        | false =>
          walk_at "rf"
          exact out H1 hk1 k1 e
        | true =>
          walk_at "rf"
          exact ⟨e, hk1, k1, rfl⟩
    | key n =>
      rw [hk] at hT out w1
      cases hAt : A.t with
      | no => rw [hAt] at hT; exact hT.elim
      | num c cl => rw [hAt] at hT; exact hT.elim
      | cnt c cl => rw [hAt] at hT; exact hT.elim
      | key a c cl u ul =>
        rw [hAt] at hT ht out
        have ht : a = t := V.ref.inj ht
        subst ht
        have hT : BkAt K H a c cl u ul n := hT
        obtain ⟨dk, hka, _⟩ := id hT
        refine .inr (.inr ?_)
        walk_at "rf"
        refine ⟨_, _, rfl, a, c, cl, u, ul, n, b, rfl, rfl, hT, w1, fun H1 hk1 k1 => ?_⟩
        refine ⟨_, rfl, ?_⟩
        cases e : (bkTake n b).1 with
        | false =>
          walk_at "rf"
          exact out H1 hk1 k1 e
        | true =>
          walk_at "rf"
          exact ⟨e, hk1, k1, rfl⟩
  · rintro σ H1 ⟨e, hk1, k1, rfl⟩
    rw [if_neg (by rw [e]; decide)] at h
    obtain ⟨hS1, hE1, k1'⟩ := fin H1 hk1 k1
    have hA1 := k1.get n2 hA
    have hdone : ∃ C dt fs, H1 t = some (.ins C dt fs) ∧ Cls K C ∧ NoAttr K C "is_done" ∧ fs.lookup ("is_done" : Str) = some (V.bl (tokDone (tokTake s.tk b).2)) := by
      cases hk : s.tk with
      | no => exact absurd hk hno
      | num n =>
        rw [hk] at hk1
        cases hAt : A.t with
        | no => rw [hAt] at hk1; exact hk1.elim
        | cnt c cl => rw [hAt] at hk1; exact hk1.elim
        | key a c cl u ul => rw [hAt] at hk1; exact hk1.elim
        | num a b2 =>
          rw [hAt] at hk1 ht
          have ht : a = t := V.ref.inj ht
          subst ht
          obtain ⟨dk, hka, _⟩ := id (show BnAt K H1 a b2 (bnTake n b).2 from hk1)
          exact ⟨_, _, _, hka, nb.cl_BencodeNumber, nb.na_BencodeNumber_is_done, lk_BencodeNumber_is_done⟩
      | key n =>
        rw [hk] at hk1
        cases hAt : A.t with
        | no => rw [hAt] at hk1; exact hk1.elim
        | cnt c cl => rw [hAt] at hk1; exact hk1.elim
        | num c cl => rw [hAt] at hk1; exact hk1.elim
        | key a c cl u ul =>
          rw [hAt] at hk1 ht
          have ht : a = t := V.ref.inj ht
          subst ht
          obtain ⟨dk, hka, _⟩ := id (show BkAt K H1 a c cl u ul (bkTake n b).2 from hk1)
          exact ⟨_, _, _, hka, nb.cl_BencodeKey, nb.na_BencodeKey_is_done, lk_BencodeKey_is_done⟩
      | cnt n =>
        rw [hk] at hk1
        cases hAt : A.t with
        | no => rw [hAt] at hk1; exact hk1.elim
        | num c cl => rw [hAt] at hk1; exact hk1.elim
        | key a c cl u ul => rw [hAt] at hk1; exact hk1.elim
        | cnt a b2 =>
          rw [hAt] at hk1 ht
          have ht : a = t := V.ref.inj ht
          subst ht
          obtain ⟨dk, hka, _⟩ := id (show CtAt K H1 a b2 (ctTake n b).2 from hk1)
          exact ⟨_, _, _, hka, nb.cl_Counted, nb.na_Counted_is_done, lk_Counted_is_done⟩
    obtain ⟨C, dt, fs, ht1, cl1, na1, lk1⟩ := hdone
    walk_at "rf"
    refine ⟨t, C, dt, fs, _, rfl, ht1, cl1, na1, lk1, ?_⟩
    refine ⟨_, rfl, ?_⟩
    cases hd : tokDone (tokTake s.tk b).2 with
    | false =>
      rw [if_pos hd] at h
      walk_at "rf"
      exact h A H1 rfl (fun x hx => .inl hx) hS1 (by rw [List.append_nil]; exact hE1) k1'
    | true =>
      rw [if_neg (by rw [hd]; decide)] at h
      walk_at "rf"
      have hno1 : (tokTake s.tk b).2 ≠ .no := by
        cases hk : s.tk with
        | no => exact absurd hk hno
        | num n => exact fun e => by cases e
        | key n => exact fun e => by cases e
        | cnt n => exact fun e => by cases e
      refine ⟨_, _, rfl, A, { s with tk := (tokTake s.tk b).2 }, q, es, rfl, rfl, hS1, ⟨wt, w3, w4, w5⟩, hno1, hE1, hes, qn, ?_⟩
      · intro A' H2 ea fr hS2 hE2 k2
        exact h A' H2 ea (fun x hx => (fr x hx).elim .inl fun z => k1'.fresh z |>.elim (fun q1 => by
          rcases List.mem_cons.mp q1 with e | e
          · rw [e] at z
            obtain ⟨vs1, hv1, _⟩ := hE1
            rw [hv1] at z
            cases z
          · exact .inl e) .inr) hS2 hE2 (k1'.trans k2)
theorem ok_BencodeScanner__take_mark (F : FunD K "_take_mark" "BencodeScanner._take_mark" (defArgs s_BencodeScanner__take_mark) (defBody s_BencodeScanner__take_mark) (defScope s_BencodeScanner__take_mark) [] [] (meAd "BencodeScanner" "_take_mark" K) fd) (nb : Nm K mg) (k_Counted : Mak P w K mg base 1 "Counted" (C_Counted K) (sp_Counted___init__ K) []) (k_BencodeNumber : Mak P w K mg base 3 "BencodeNumber" (C_BencodeNumber K) (sp_BencodeNumber___init__ K) []) (k_BencodeKey : Mak P w K mg base 3 "BencodeKey" (C_BencodeKey K) (sp_BencodeKey___init__ K) []) (m_BencodeScanner__begin_counted : Met P w K mg base 5 (C_BencodeScanner K) "_begin_counted" (sp_BencodeScanner__begin_counted K) []) (m_BencodeScanner__grow : Met P w K mg base 2 (C_BencodeScanner K) "_grow" (sp_BencodeScanner__grow K) []) (m_BencodeScanner__close : Met P w K mg base 3 (C_BencodeScanner K) "_close" (sp_BencodeScanner__close K) []) : Met P w K mg base 6 (C_BencodeScanner K) "_take_mark" (sp_BencodeScanner__take_mark K) [] := by
  refine metD F nb.cl_BencodeScanner nb.me_BencodeScanner__take_mark sc_BencodeScanner__take_mark (fun _ _ _ _ _ _ us hl => match us, hl with | [_, _, _], _ => rfl) len3 (fun cdv A outer s H vs Q E hr h => ⟨_, (pss_cons (ps_if (pt_cmpR op_eq (pv 1) (pe_gc rfl nb.g_SMALL_E) (nomark _))
    (pss_one (ps_ret (pe_mt m_BencodeScanner__close hr (by decide) (pv 0) (pa_cons (pv 2) pa_nil))))
    pss_nil)
    (pss_cons (ps_if (pt_cmpR op_eq (pe_fld (pv 0) rfl) pe_str (nomark _))
    (pss_one (ps_ret pe_bl))
    pss_nil)
    (pss_cons (ps_if (pt_cmpR op_eq (pe_fld (pv 0) rfl) pe_str (nomark _))
    (pss_one (ps_ret (pe_mt m_BencodeScanner__begin_counted hr (by decide) (pv 0) (pa_cons (pe_mk0 k_BencodeKey hr (by decide) rfl) (pa_cons (pv 1) pa_nil)))))
    pss_nil)
    (pss_cons (ps_if (pt_cmpR op_eq (pv 1) (pe_gc rfl nb.g_SMALL_L) (nomark _))
    (pss_one (ps_ret (pe_mt m_BencodeScanner__grow hr (by decide) (pv 0) (pa_cons pe_str (pa_cons (pv 2) pa_nil)))))
    pss_nil)
    (pss_cons (ps_if (pt_cmpR op_eq (pv 1) (pe_gc rfl nb.g_SMALL_D) (nomark _))
    (pss_one (ps_ret (pe_mt m_BencodeScanner__grow hr (by decide) (pv 0) (pa_cons pe_str (pa_cons (pv 2) pa_nil)))))
    pss_nil)
    (pss_cons (ps_if (pt_cmpR op_eq (pv 1) (pe_gc rfl nb.g_SMALL_I) (nomark _))
    (pss_cons (ps_fld (pv 0) (pe_mk0 k_BencodeNumber hr (by decide) rfl) rfl)
    (pss_one (ps_ret pe_bl)))
    pss_nil)
    (pss_one (ps_ret (pe_mt m_BencodeScanner__begin_counted hr (by decide) (pv 0) (pa_cons (pe_mk0 k_Counted hr (by decide) rfl) (pa_cons (pv 1) pa_nil))))))))))), ?_⟩)
  obtain ⟨_, _, _, rfl, A, s, b, q, es, rfl, rfl, rfl, hS, hW, hno, hE, hes, qn, h⟩ := h
  obtain ⟨⟨dx, hA⟩, hN, hT, nd⟩ := id hS
  obtain ⟨vs, hq, tp⟩ := id hE
  obtain ⟨n1, n2, n3, n4⟩ := sca_nd nd
  obtain ⟨w1, w2, w3, w4, w5⟩ := hW
  have hAt : A.t = .no := by
    rw [hno] at hT
    cases e : A.t <;> rw [e] at hT <;> first | rfl | exact hT.elim
  have qa : q ≠ A.a := fun e => qn (by rw [e]; exact List.mem_cons_self ..)
  have qns : q ∉ A.ns := fun e => qn (List.mem_cons_of_mem _ (List.mem_append_left _ e))
  have ownE : A.own = A.a :: A.ns := by
    unfold ScA.own
    rw [hAt]
    show A.a :: (A.ns ++ []) = _
    rw [List.append_nil]
  have ndn : A.ns.Nodup := by
    unfold ScA.own at nd
    rw [List.nodup_cons, List.nodup_append] at nd
    exact nd.2.1
  unfold scMark at h
  /- a new token -/
  have mk : ∀ (T : TkA) (k : Tok) (H1 : Hp), (∀ x ∈ T.own, H x = none) → T.own.Nodup → TkAt K H1 T k → Same H H1 → (k = .key bk0 ∨ k = .cnt ct0) → ScEv K H A q es (scBegin s k b) Q → sp_BencodeScanner__begin_counted K ([.ref A.a, T.v, .int b] ++ []) H1 Q C8.E0 := fun T k H1 fr ndt hk1 s1 hor hq1 => by
    have k1 : Ch [] H H1 := Ch.same s1 Ch.refl
    have dis : ∀ x ∈ T.own, ∀ y, (∃ u, H y = some u) → x ≠ y := fun x hx y ⟨u, hu⟩ e => by
      rw [e] at hx
      rw [fr y hx] at hu
      cases hu
    have ndT : ({ A with t := T } : ScA).own.Nodup := by
      show (A.a :: (A.ns ++ T.own)).Nodup
      rw [List.nodup_cons, List.nodup_append]
      refine ⟨fun z => ?_, ndn, ndt, fun x hx y hy e => dis y hy x (hN.some x hx) e.symm⟩
      rcases List.mem_append.mp z with z | z
      · exact n1 z
      · exact dis _ z _ ⟨_, hA⟩ rfl
    refine ⟨_, _, _, rfl, A, s, T, k, b, rfl, rfl, rfl, hS.get k1 (by simp), hAt, hk1, ?_, hor, ndT, fun H2 hS2 k2 => ?_⟩
    · rcases hor with rfl | rfl
      · exact ⟨fun z => (by cases z), by show 0 < sizeLine; decide, by show 0 < sizeLine; decide⟩
      · exact ⟨fun z => (by cases z), by show 0 < sizeLine; decide⟩
    · refine hq1 { A with t := T } H2 rfl (fun x hx => ?_) hS2 ?_ ?_
      · rcases List.mem_cons.mp hx with e | hx
        · exact .inl (by rw [e]; exact List.mem_cons_self ..)
        rcases List.mem_append.mp hx with hx | hx
        · exact .inl (List.mem_cons_of_mem _ (List.mem_append_left _ hx))
        · exact .inr (fr x hx)
      · show EvL H2 q (es ++ [])
        rw [List.append_nil]
        refine (hE.get k1 (by simp)).get k2 fun z => ?_
        rcases List.mem_cons.mp z with e | z
        · exact qa e
        · exact dis _ z _ ⟨_, hq⟩ rfl
      · refine k2.ch (fun x hx => ?_) (Ch.same s1 Ch.refl)
        rcases List.mem_cons.mp hx with e | hx
        · exact .inl (by rw [e]; simp [ScA.own])
        · exact .inr (fr x hx)
  walk_at "rf"
  refine r_ite (fun c => ?_) (fun c => ?_)
  · rw [if_pos c] at h
    walk_at "rf"
    exact ⟨_, _, rfl, A, s, q, es, rfl, rfl, hS, w4, hE, hes, qn, h⟩
  rw [if_neg c] at h
  walk_at "rf"
  refine r_ite (fun c => ?_) (fun c => ?_)
  · rw [if_pos c] at h
    walk_at "rf"
    exact h A H rfl (fun x hx => .inl hx) hS (by rw [List.append_nil]; exact hE) Ch.refl
  rw [if_neg c] at h
  walk_at "rf"
  refine r_ite (fun c => ?_) (fun c => ?_)
  · rw [if_pos c] at h
    walk_at "rf"
    refine d_bkey fun a c cl u ul H1 fr hk1 s1 => ?_
    walk_at "rf"
    exact mk (.key a c cl u ul) (.key bk0) H1 fr hk1.choose_spec.2.2.2 hk1 s1 (.inl rfl) h
  rw [if_neg c] at h
  walk_at "rf"
  refine r_ite (fun c => ?_) (fun c => ?_)
  · rw [if_pos c] at h
    walk_at "rf"
    exact ⟨_, _, _, rfl, A, s, false, q, es, rfl, rfl, rfl, hS, w4, hE, hes, qn, h⟩
  rw [if_neg c] at h
  walk_at "rf"
  refine r_ite (fun c => ?_) (fun c => ?_)
  · rw [if_pos c] at h
    walk_at "rf"
    exact ⟨_, _, _, rfl, A, s, true, q, es, rfl, rfl, rfl, hS, w4, hE, hes, qn, h⟩
  rw [if_neg c] at h
  walk_at "rf"
  refine r_ite (fun c => ?_) (fun c => ?_)
  · rw [if_pos c] at h
    walk_at "rf"
    refine d_bnum fun a b2 H1 na nb2 hk1 s1 => ?_
    have hA1 := s1 _ _ hA
    walk_at "rf"
    walk_at "fs"
    intro H2 hA2 f2
    walk_at "rf"
    have ad : A.a ≠ a := Same.ne na hA
    have bd : A.a ≠ b2 := Same.ne nb2 hA
    have k2 : Ch [A.a] H1 H2 := by walk_at "ch"
    have kk : Ch [A.a] H H2 := by walk_at "ch"
    have hT2 := hk1.get k2 (by simp [Ne.symm ad]) (by simp [Ne.symm bd])
    have ab := hk1.choose_spec.2.2
    have dis : ∀ x ∈ [a, b2], ∀ y, (∃ u, H y = some u) → x ≠ y := fun x hx y ⟨u, hu⟩ e => by
      rw [e] at hx
      simp at hx
      rcases hx with e | e
      · rw [e, na] at hu; cases hu
      · rw [e, nb2] at hu; cases hu
    refine h { A with t := .num a b2 } H2 rfl (fun x hx => ?_) ⟨⟨dx, hA2⟩, hN.get kk (fun x hx z => n1 (by rw [← List.mem_singleton.mp z]; exact hx)), hT2, ?_⟩ (by rw [List.append_nil]; exact hE.get kk (by simp [qa])) (kk.mono (by simp [ScA.own]))
    · rcases List.mem_cons.mp hx with e | hx
      · exact .inl (by rw [e]; exact List.mem_cons_self ..)
      rcases List.mem_append.mp hx with hx | hx
      · exact .inl (List.mem_cons_of_mem _ (List.mem_append_left _ hx))
      · simp [TkA.own] at hx
        rcases hx with e | e
        · exact .inr (by rw [e]; exact na)
        · exact .inr (by rw [e]; exact nb2)
    · show (A.a :: (A.ns ++ [a, b2])).Nodup
      rw [List.nodup_cons, List.nodup_append]
      refine ⟨fun z => ?_, ndn, by simp [ab], fun x hx y hy e => dis y hy x (hN.some x hx) e.symm⟩
      rcases List.mem_append.mp z with z | z
      · exact n1 z
      · exact dis _ z _ ⟨_, hA⟩ rfl
  rw [if_neg c] at h
  walk_at "rf"
  refine d_counted fun c cl H1 nc ncl hk1 s1 => ?_
  walk_at "rf"
  exact mk (.cnt c cl) (.cnt ct0) H1 (ms_cons nc (ms_cons ncl ms_nil)) (by simp [TkA.own, hk1.choose_spec.2.2]) hk1 s1 (.inr rfl) h
end

/-! ### what is written is scanned -/
open PySem.NumText in
def asc (x : List Nat) : List Int := x.map fun (c : Nat) => Int.ofNat c
def scStep (s : Sc) (o : Int) : Sc := { (scTake s o).2.2 with pl := (scTake s o).2.2.pl + 1 }
def Runs : Sc → List Int → List (List Ev) → Sc → Prop
  | s, [], [], t => t = s
  | s, o :: os, r :: rs, t => Wf s ∧ (scTake s o).1 = true ∧ (scTake s o).2.1 = r ∧ Runs (scStep s o) os rs t
  | _, [], _ :: _, _ => False
  | _, _ :: _, [], _ => False
theorem Runs.app : ∀ {a b : List Int} {ra rb : List (List Ev)} {s m t : Sc}, Runs s a ra m → Runs m b rb t → Runs s (a ++ b) (ra ++ rb) t
  | [], _, [], _, s, m, t, h1, h2 => by
    have h1 : m = s := h1
    subst h1
    exact h2
  | o :: os, _, r :: rs, _, s, m, t, h1, h2 => ⟨h1.1, h1.2.1, h1.2.2.1, Runs.app h1.2.2.2 h2⟩
  | [], _, _ :: _, _, _, _, _, h1, _ => h1.elim
  | _ :: _, _, [], _, _, _, _, h1, _ => h1.elim
theorem Runs.one {s : Sc} {o : Int} {r : List Ev} {t : Sc} (w : Wf s) (e : scTake s o = (true, r, t)) : Runs s [o] [r] { t with pl := t.pl + 1 } := by
  refine ⟨w, by rw [e], by rw [e], ?_⟩
  show _ = scStep s o
  unfold scStep
  rw [e]
/-- nothing is told for so many octets -/
def Nils (os : List Int) : List (List Ev) := List.replicate os.length []
theorem nils_app (a b : List Int) : Nils (a ++ b) = Nils a ++ Nils b := by
  unfold Nils
  rw [List.length_append, List.replicate_append_replicate]
/-- the levels are sound -/
def Lok (s : Sc) : Prop := (s.wt = "key" → s.lv ≠ []) ∧ s.lv.length ≤ 24 ∧ ∀ l ∈ s.lv, l.ks.length < sizeLine
theorem wf_no {s : Sc} (h : s.tk = .no) (l : Lok s) : Wf s := ⟨by rw [h]; trivial, by unfold scWant; rw [h]; trivial, l⟩
/-- a token that counts: bytes, or a key -/
def Wr (key : Bool) (c : Ct) : Tok := if key then .key ⟨c.d, c, u80⟩ else .cnt c
theorem wr_done (key : Bool) (c : Ct) : tokDone (Wr key c) = c.d := by cases key <;> rfl
theorem wr_no (key : Bool) (c : Ct) : Wr key c ≠ .no := by cases key <;> exact fun h => by cases h
theorem wr_take {key : Bool} {c : Ct} {o : Int} (hb : c.b = false) : tokTake (Wr key c) o = ((ctTake c o).1, Wr key (ctTake c o).2) ∨ (ctTake c o).1 = false := by
  cases e : (ctTake c o).1 with
  | false => exact .inr rfl
  | true =>
    left
    cases key with
    | false =>
      show ((ctTake c o).1, Tok.cnt (ctTake c o).2) = _
      rw [e]
      rfl
    | true =>
      show ((bkTake ⟨c.d, c, u80⟩ o).1, Tok.key (bkTake ⟨c.d, c, u80⟩ o).2) = _
      have e2 : bkTake ⟨c.d, c, u80⟩ o = bkFin c.d (ctTake c o).2 u80 := by
        unfold bkTake
        rw [if_neg (by rw [e]; decide), if_neg (by rw [hb]; decide)]
      rw [e2]
      show ((!(ctTake c o).2.d || !decide ((0 : Int) > 0)), _) = _
      rw [show (!decide ((0 : Int) > 0)) = true from rfl, Bool.or_true]
      rfl
theorem go_eq {s : Sc} (h : s.tk ≠ .no) (o : Int) : scTake s o = scGo s o := by
  unfold scTake
  cases hk : s.tk with
  | no => exact absurd hk h
  | num n => rfl
  | key n => rfl
  | cnt n => rfl
theorem go_step {s : Sc} {o : Int} {t : Tok} (h : s.tk ≠ .no) (e : tokTake s.tk o = (true, t)) (d : tokDone t = false) : scTake s o = (true, [], { s with tk := t }) := by
  rw [go_eq h]
  unfold scGo
  rw [e, if_neg (fun z => Bool.noConfusion z), if_pos d]
theorem go_end {s : Sc} {o : Int} {t : Tok} (h : s.tk ≠ .no) (e : tokTake s.tk o = (true, t)) (d : tokDone t = true) : scTake s o = scEndToken { s with tk := t } := by
  rw [go_eq h]
  unfold scGo
  rw [e, if_neg (fun z => Bool.noConfusion z), if_neg (by rw [d]; decide)]
/-- the place where a token of that kind is wanted -/
def At (key : Bool) (s : Sc) : Prop := s.wt ≠ "nothing" ∧ (key = true ↔ s.wt = "key")
theorem mark_dig {key : Bool} {s : Sc} {o : Int} (h : s.tk = .no) (a : At key s) (h1 : 48 ≤ o) (h2 : o ≤ 57) : scTake s o = scBegin s (Wr key ct0) o := by
  unfold scTake
  rw [h]
  show scMark s o = _
  unfold scMark
  rw [if_neg (by omega), if_neg a.1]
  cases key with
  | true =>
    rw [if_pos (a.2.mp rfl)]
    rfl
  | false =>
    rw [if_neg (fun z => by cases a.2.mpr z), if_neg (by omega), if_neg (by omega), if_neg (by omega)]
    rfl
theorem isDg_of {o : Int} (h1 : 48 ≤ o) (h2 : o ≤ 57) : isDg o = true := by
  unfold isDg
  rw [decide_eq_true h1, decide_eq_true h2]
  rfl
theorem ct_dig0 {o : Int} (h1 : 48 ≤ o) (h2 : o ≤ 57) : ctTake ct0 o = (true, ⟨false, false, [], some (o - 48)⟩) := by
  show ctCount ct0 o = _
  unfold ctCount
  rw [if_neg (fun z => z.2 rfl), if_neg (fun z => z.elim (fun z => by rw [isDg_of h1 h2] at z; cases z) (fun z => by cases z))]
  show (true, Ct.mk false false [] (some ((0 : Int) * 10 + o - 48))) = _
  rw [show (0 : Int) * 10 + o - 48 = o - 48 by omega]
theorem ct_dig {o k : Int} (h1 : 48 ≤ o) (h2 : o ≤ 57) (hk : k ≠ 0) : ctTake ⟨false, false, [], some k⟩ o = (true, ⟨false, false, [], some (k * 10 + o - 48)⟩) := by
  show ctCount ⟨false, false, [], some k⟩ o = _
  unfold ctCount
  rw [if_neg (fun z => by have := z.1; omega), if_neg (fun z => z.elim (fun z => by rw [isDg_of h1 h2] at z; cases z) (fun z => hk (Option.some.inj z)))]
  rfl
theorem ct_colon (k : Int) : ctTake ⟨false, false, [], some k⟩ 58 = (true, ⟨decide (k = 0), true, [], some k⟩) := by
  show ctCount ⟨false, false, [], some k⟩ 58 = _
  unfold ctCount
  rw [if_pos ⟨rfl, fun z => by cases z⟩]
  rfl
theorem wf_tok {key : Bool} {s : Sc} {c : Ct} {n : Nat} (a : At key s) (l : Lok s) (hb : c.b = true → ∃ k, c.m = some k) (hl : c.os.length < sizeLine) : Wf { s with tk := Wr key c, pl := n } := by
  refine ⟨?_, ?_, l⟩
  · cases key with
    | true => exact ⟨hb, hl, by show 0 < sizeLine; decide⟩
    | false => exact ⟨hb, hl⟩
  · cases key with
    | true => exact a.2.mp rfl
    | false => exact fun z => by cases a.2.mpr z
/-- a count -/
theorem run_count {key : Bool} {s : Sc} (h : s.tk = .no) (a : At key s) (l : Lok s) : ∀ n : Nat, ∃ pl, Runs s (asc (dg n)) (Nils (asc (dg n))) { s with tk := Wr key ⟨false, false, [], some (n : Int)⟩, pl := pl } := by
  intro n
  induction n using Nat.strongRecOn with
  | _ n ih =>
    by_cases c : n < 10
    · rw [dg_lt c]
      have e : scTake s (Int.ofNat (48 + n)) = (true, [], { s with tk := Wr key ⟨false, false, [], some (n : Int)⟩ }) := by
        have h1 : (48 : Int) ≤ Int.ofNat (48 + n) := by show (48 : Int) ≤ ((48 + n : Nat) : Int); omega
        have h2 : Int.ofNat (48 + n) ≤ 57 := by show ((48 + n : Nat) : Int) ≤ 57; omega
        rw [mark_dig h a h1 h2]
        unfold scBegin
        have e2 := ct_dig0 h1 h2
        rcases wr_take (key := key) (c := ct0) (o := Int.ofNat (48 + n)) rfl with e1 | e1
        · rw [e1, e2]
          have : Int.ofNat (48 + n) - 48 = (n : Int) := by show ((48 + n : Nat) : Int) - 48 = n; omega
          rw [this]
        · rw [e2] at e1
          exact Bool.noConfusion e1
      exact ⟨_, Runs.one (wf_no h l) e⟩
    · obtain ⟨pl, r⟩ := ih (n / 10) (by omega)
      rw [dg_step (by omega)]
      have ea : asc (dg (n / 10) ++ [48 + n % 10]) = asc (dg (n / 10)) ++ [Int.ofNat (48 + n % 10)] := by
        unfold asc
        rw [List.map_append]
        rfl
      rw [ea, nils_app]
      refine ⟨pl + 1, r.app (Runs.one (t := { s with tk := Wr key ⟨false, false, [], some (n : Int)⟩, pl := pl }) (wf_tok (c := ⟨false, false, [], some ((n / 10 : Nat) : Int)⟩) a l (fun z => Bool.noConfusion z) (by show 0 < sizeLine; decide)) ?_)⟩
      have h1 : (48 : Int) ≤ Int.ofNat (48 + n % 10) := by show (48 : Int) ≤ ((48 + n % 10 : Nat) : Int); omega
      have h2 : Int.ofNat (48 + n % 10) ≤ 57 := by show ((48 + n % 10 : Nat) : Int) ≤ 57; omega
      have e2 := ct_dig (k := ((n / 10 : Nat) : Int)) h1 h2 (by omega)
      refine (go_step (t := Wr key ⟨false, false, [], some (n : Int)⟩) (wr_no key _) ?_ (wr_done key _)).trans rfl
      rcases wr_take (key := key) (c := ⟨false, false, [], some ((n / 10 : Nat) : Int)⟩) (o := Int.ofNat (48 + n % 10)) rfl with e1 | e1
      · refine e1.trans ?_
        rw [e2]
        have : ((n / 10 : Nat) : Int) * 10 + Int.ofNat (48 + n % 10) - 48 = (n : Int) := by show ((n / 10 : Nat) : Int) * 10 + ((48 + n % 10 : Nat) : Int) - 48 = n; omega
        rw [this]
      · rw [e2] at e1
        exact Bool.noConfusion e1

/-! .. the rest of a token -/
theorem asc_dg (n : Nat) : asc (dg n) ≠ [] := fun e => by
  have := dg_pos n
  have e2 := congrArg List.length e
  unfold asc at e2
  rw [List.length_map] at e2
  have e2 : (dg n).length = 0 := e2
  omega
def strO (os : List Int) : List Int := asc (dg os.length) ++ [58] ++ os
theorem run_colon {key : Bool} {s : Sc} (a : At key s) (l : Lok s) (n : Nat) (pl : Nat) (hn : n ≠ 0) : Runs { s with tk := Wr key ⟨false, false, [], some (n : Int)⟩, pl := pl } [58] [[]] { s with tk := Wr key ⟨false, true, [], some (n : Int)⟩, pl := pl + 1 } := by
  refine Runs.one (t := { s with tk := Wr key ⟨false, true, [], some (n : Int)⟩, pl := pl }) (wf_tok (c := ⟨false, false, [], some (n : Int)⟩) a l (fun z => Bool.noConfusion z) (by show 0 < sizeLine; decide)) ?_
  refine go_step (t := Wr key ⟨false, true, [], some (n : Int)⟩) (wr_no key _) ?_ (wr_done key _)
  have e2 := ct_colon (n : Int)
  rw [decide_eq_false (show ¬ (n : Int) = 0 by omega)] at e2
  rcases wr_take (key := key) (c := ⟨false, false, [], some (n : Int)⟩) (o := 58) rfl with e1 | e1
  · exact e1.trans (by rw [e2])
  · rw [e2] at e1
    exact Bool.noConfusion e1
theorem run_colon0 {key : Bool} {s : Sc} (a : At key s) (l : Lok s) (pl : Nat) {r : List Ev} {t : Sc} (e : scEndToken { s with tk := Wr key ⟨true, true, [], some 0⟩, pl := pl } = (true, r, t)) : Runs { s with tk := Wr key ⟨false, false, [], some ((0 : Nat) : Int)⟩, pl := pl } [58] [r] { t with pl := t.pl + 1 } := by
  refine Runs.one (wf_tok (c := ⟨false, false, [], some ((0 : Nat) : Int)⟩) a l (fun z => Bool.noConfusion z) (by show 0 < sizeLine; decide)) ?_
  have e2 := ct_colon ((0 : Nat) : Int)
  rw [decide_eq_true (show ((0 : Nat) : Int) = 0 from rfl)] at e2
  refine (go_end (t := Wr key ⟨true, true, [], some ((0 : Nat) : Int)⟩) (wr_no key _) ?_ (wr_done key _)).trans e
  rcases wr_take (key := key) (c := ⟨false, false, [], some ((0 : Nat) : Int)⟩) (o := 58) rfl with e1 | e1
  · exact e1.trans (by rw [e2])
  · rw [e2] at e1
    exact Bool.noConfusion e1
/-- the octets behind a count: bytes -/
theorem run_octets {s : Sc} (a : At false s) (l : Lok s) : ∀ (os done : List Int) (pl : Nat), os ≠ [] → done.length + os.length < sizeLine →
    ∃ pl', Runs { s with tk := .cnt ⟨false, true, done, some (os.length : Int)⟩, pl := pl } os (Nils os.tail ++ [[.lf "bytes" [kd (done ++ os)]]]) { (scEndValue { s with tk := .no }) with pl := pl' }
  | [], _, _, h, _ => absurd rfl h
  | [o], done, pl, _, hl => by
    refine ⟨pl + 1, Runs.one (t := { (scEndValue { s with tk := .no }) with pl := pl }) (wf_tok (key := false) (c := ⟨false, true, done, some (([o] : List Int).length : Int)⟩) a l (fun _ => ⟨_, rfl⟩) (by show done.length < sizeLine; omega)) (?_ : scTake _ o = (true, [Ev.lf "bytes" [kd (done ++ [o])]], { (scEndValue { s with tk := .no }) with pl := pl }))⟩
    refine (go_end (t := .cnt ⟨true, true, done ++ [o], some 0⟩) (fun h => by cases h) rfl rfl).trans rfl
  | o :: o2 :: os, done, pl, _, hl => by
    have hl : done.length + (os.length + 2) < sizeLine := hl
    obtain ⟨pl', r⟩ := run_octets a l (o2 :: os) (done ++ [o]) (pl + 1) (by simp) (by simp; omega)
    rw [List.append_assoc] at r
    refine ⟨pl', ?_⟩
    have e : Nils (o :: o2 :: os).tail ++ [[Ev.lf "bytes" [kd (done ++ (o :: o2 :: os))]]] = [[]] ++ (Nils (o2 :: os).tail ++ [[.lf "bytes" [kd (done ++ ([o] ++ o2 :: os))]]]) := by
      show Nils ([o2] ++ os) ++ _ = _
      rw [nils_app]
      rfl
    rw [e]
    refine Runs.app (a := [o]) (m := { s with tk := .cnt ⟨false, true, done ++ [o], some ((o2 :: os).length : Int)⟩, pl := pl + 1 }) (Runs.one (t := { s with tk := .cnt ⟨false, true, done ++ [o], some ((o2 :: os).length : Int)⟩, pl := pl }) (wf_tok (key := false) (c := ⟨false, true, done, some ((o :: o2 :: os).length : Int)⟩) a l (fun _ => ⟨_, rfl⟩) (by show done.length < sizeLine; omega)) ?_) r
    refine go_step (t := .cnt ⟨false, true, done ++ [o], some ((o2 :: os).length : Int)⟩) (fun h => by cases h) ?_ rfl
    have e1 : ((o :: o2 :: os).length : Int) - 1 = ((o2 :: os).length : Int) := by simp
    show (true, Tok.cnt ⟨decide (((o :: o2 :: os).length : Int) - 1 = 0), true, done ++ [o], some (((o :: o2 :: os).length : Int) - 1)⟩) = _
    rw [e1, decide_eq_false (by simp; omega)]
theorem nils_ne {os : List Int} {r : List Ev} (x : List (List Ev)) : Nils os ++ (x ++ [r]) = (Nils os ++ x) ++ [r] := (List.append_assoc _ _ _).symm
/-- what a token of so many octets tells: nothing, and with the last one its event -/
def Told (os : List Int) (e : Ev) : List (List Ev) := Nils os.tail ++ [[e]]
theorem told_app {a b : List Int} {e : Ev} (ha : a ≠ []) (hb : b ≠ []) : Nils a ++ Told b e = Told (a ++ b) e := by
  unfold Told
  rw [← List.append_assoc, ← nils_app]
  congr 1
  unfold Nils
  congr 1
  cases a with
  | nil => exact absurd rfl ha
  | cons x a =>
    cases b with
    | nil => exact absurd rfl hb
    | cons y b =>
      simp
      omega
theorem run_bytes {s : Sc} (h : s.tk = .no) (a : At false s) (l : Lok s) (os : List Int) (hl : os.length < sizeLine) : ∃ pl, Runs s (strO os) (Told (strO os) (.lf "bytes" [kd os])) { (scEndValue { s with tk := .no }) with pl := pl } := by
  obtain ⟨pl, r⟩ := run_count h a l os.length
  unfold strO
  cases os with
  | nil =>
    rw [List.append_nil, ← told_app (asc_dg _) (by simp)]
    have e : scEndToken { s with tk := Wr false ⟨true, true, [], some 0⟩, pl := pl } = (true, [.lf "bytes" [kd []]], { (scEndValue { s with tk := .no }) with pl := pl }) := rfl
    exact ⟨pl + 1, r.app (run_colon0 (t := { (scEndValue { s with tk := .no }) with pl := pl }) a l pl e)⟩
  | cons o os =>
    have r2 := run_colon (key := false) a l (o :: os).length pl (by simp)
    obtain ⟨pl', r3⟩ := run_octets a l (o :: os) [] (pl + 1) (by simp) (by simpa using hl)
    rw [List.append_assoc, ← told_app (asc_dg _) (by simp), ← told_app (a := [58]) (by simp) (by simp)]
    exact ⟨pl', r.app (r2.app r3)⟩
/-- .. a key -/
theorem bk_in {done : List Int} {n o : Int} {u : U8} (h : (u8take u o).1 = true) : bkTake ⟨false, ⟨false, true, done, some n⟩, u⟩ o = bkFin false ⟨decide (n - 1 = 0), true, done ++ [o], some (n - 1)⟩ (u8take u o).2 := by
  have e : ctTake ⟨false, true, done, some n⟩ o = (true, ⟨decide (n - 1 = 0), true, done ++ [o], some (n - 1)⟩) := rfl
  unfold bkTake
  rw [e, if_neg (fun z => Bool.noConfusion z), if_pos rfl, if_neg (by rw [h]; decide)]
theorem wf_key {s : Sc} {c : Ct} {u : U8} {n : Nat} (a : At true s) (l : Lok s) (hb : c.b = true → ∃ k, c.m = some k) (hl : c.os.length < sizeLine) (hu : u.ps.length < sizeLine) : Wf { s with tk := .key ⟨false, c, u⟩, pl := n } := ⟨⟨hb, hl, hu⟩, a.2.mp rfl, l⟩
theorem run_kocts {s : Sc} (a : At true s) (l : Lok s) : ∀ (os done : List Int) (u v : U8) (pl : Nat), os ≠ [] → u8run u os = some v → v.ms = 0 → done.length + os.length < sizeLine → u.ps.length + os.length < sizeLine →
    scFresh s.lv v.ps = true →
    ∃ pl', Runs { s with tk := .key ⟨false, ⟨false, true, done, some (os.length : Int)⟩, u⟩, pl := pl } os (Told os (.ky v.ps)) { s with tk := .no, wt := "entry", lv := scNote s.lv v.ps, pl := pl' }
  | [], _, _, _, _, h, _, _, _, _, _ => absurd rfl h
  | [o], done, u, v, pl, _, hu, hv, hl, hp, hf => by
    unfold u8run at hu
    by_cases c : (u8take u o).1 = true
    rotate_left
    · rw [if_neg c] at hu
      cases hu
    rw [if_pos c] at hu
    have hu : v = (u8take u o).2 := (Option.some.inj hu).symm
    refine ⟨pl + 1, Runs.one (t := { s with tk := .no, wt := "entry", lv := scNote s.lv v.ps, pl := pl }) (wf_key (c := ⟨false, true, done, some (([o] : List Int).length : Int)⟩) a l (fun _ => ⟨_, rfl⟩) (by show done.length < sizeLine; omega) (by omega)) ?_⟩
    refine (go_end (t := .key ⟨true, ⟨true, true, done ++ [o], some 0⟩, v⟩) (fun h => by cases h) ?_ rfl).trans ?_
    · show ((bkTake _ o).1, Tok.key (bkTake _ o).2) = _
      rw [bk_in c, ← hu]
      show ((!true || !decide (v.ms > 0)), Tok.key ⟨true, ⟨true, true, done ++ [o], some 0⟩, v⟩) = _
      rw [hv]
      rfl
    · show (scFresh s.lv v.ps, _, _) = _
      rw [hf]
  | o :: o2 :: os, done, u, v, pl, _, hu, hv, hl, hp, hf => by
    have hl : done.length + (os.length + 2) < sizeLine := hl
    have hp : u.ps.length + (os.length + 2) < sizeLine := hp
    unfold u8run at hu
    by_cases c : (u8take u o).1 = true
    rotate_left
    · rw [if_neg c] at hu
      cases hu
    rw [if_pos c] at hu
    have hlen := u8take_len u o
    obtain ⟨pl', r⟩ := run_kocts a l (o2 :: os) (done ++ [o]) (u8take u o).2 v (pl + 1) (by simp) hu hv (by simp; omega) (by show _ + (os.length + 1) < _; omega) hf
    refine ⟨pl', ?_⟩
    have e : Told (o :: o2 :: os) (.ky v.ps) = [([] : List Ev)] ++ Told (o2 :: os) (.ky v.ps) := by
      unfold Told
      show Nils ([o2] ++ os) ++ _ = _
      rw [nils_app]
      rfl
    rw [e]
    refine Runs.app (a := [o]) (m := { s with tk := .key ⟨false, ⟨false, true, done ++ [o], some ((o2 :: os).length : Int)⟩, (u8take u o).2⟩, pl := pl + 1 }) (Runs.one (t := { s with tk := .key ⟨false, ⟨false, true, done ++ [o], some ((o2 :: os).length : Int)⟩, (u8take u o).2⟩, pl := pl }) (wf_key (c := ⟨false, true, done, some ((o :: o2 :: os).length : Int)⟩) a l (fun _ => ⟨_, rfl⟩) (by show done.length < sizeLine; omega) (by omega)) ?_) r
    refine go_step (t := .key ⟨false, ⟨false, true, done ++ [o], some ((o2 :: os).length : Int)⟩, (u8take u o).2⟩) (fun h => by cases h) ?_ rfl
    have e1 : ((o :: o2 :: os).length : Int) - 1 = ((o2 :: os).length : Int) := by simp
    show ((bkTake _ o).1, Tok.key (bkTake _ o).2) = _
    rw [bk_in c, e1, decide_eq_false (by simp; omega)]
    rfl
theorem run_key {s : Sc} (h : s.tk = .no) (a : At true s) (l : Lok s) (k : List Int) (hk : ∀ c ∈ k, Point c) (hl : (encs k).length < sizeLine) (hf : scFresh s.lv k = true) :
    ∃ pl, Runs s (strO (encs k)) (Told (strO (encs k)) (.ky k)) { s with tk := .no, wt := "entry", lv := scNote s.lv k, pl := pl } := by
  obtain ⟨pl, r⟩ := run_count h a l (encs k).length
  obtain ⟨v, e1, e2, e3⟩ := u8run_encs k u80 hk rfl
  have e3 : v.ps = k := e3
  unfold strO
  cases ek : encs k with
  | nil =>
    rw [ek] at e1 r
    have ev : v = u80 := (Option.some.inj e1).symm
    have k0 : k = [] := by rw [← e3, ev]; rfl
    rw [List.append_nil, ← told_app (asc_dg _) (by simp)]
    have e : scEndToken { s with tk := Wr true ⟨true, true, [], some 0⟩, pl := pl } = (true, [.ky k], { s with tk := .no, wt := "entry", lv := scNote s.lv k, pl := pl }) := by
      show (scFresh s.lv [], [Ev.ky []], _) = _
      rw [k0] at hf ⊢
      rw [hf]
      rfl
    exact ⟨pl + 1, r.app (run_colon0 (t := { s with tk := .no, wt := "entry", lv := scNote s.lv k, pl := pl }) a l pl e)⟩
  | cons o os =>
    rw [ek] at e1 r hl
    have r2 := run_colon (key := true) a l (o :: os).length pl (by simp)
    obtain ⟨pl', r3⟩ := run_kocts a l (o :: os) [] u80 v (pl + 1) (by simp) e1 e2 (by simpa using hl) (by simpa [u80] using hl) (by rw [e3]; exact hf)
    rw [e3] at r3
    rw [List.append_assoc, ← told_app (asc_dg _) (by simp), ← told_app (a := [58]) (by simp) (by simp)]
    exact ⟨pl', r.app (r2.app r3)⟩

/-! .. numbers, lists, maps -/
def numO (m e : Int) : List Int := [105] ++ asc ((if m < 0 then [45] else []) ++ dg m.natAbs ++ List.replicate e.toNat 48) ++ [101]
def Nf (m e : Int) : Prop := (m = 0 ∧ e = 0) ∨ (m % 10 ≠ 0 ∧ 0 ≤ e ∧ e ≤ 800)
theorem wf_num {s : Sc} {b : Bn} {n : Nat} (a : At false s) (l : Lok s) : Wf { s with tk := .num b, pl := n } := ⟨trivial, fun z => (by cases a.2.mpr z), l⟩
theorem bn_dig {b : Bn} {d : Nat} (hd : d < 10) (h1 : b.st ≠ "zero") (h2 : b.st = "minus" → d ≠ 0) : bnTake b (Int.ofNat (48 + d)) = (true, { b with st := if b.st = "" ∧ d = 0 then "zero" else "digits", w := b.w * 10 + (d : Int) }) := by
  have e48 : Int.ofNat (48 + d) = 48 + (d : Int) := by show ((48 + d : Nat) : Int) = _; omega
  unfold bnTake
  rw [e48, if_neg (by omega), if_neg (by omega), if_pos (isDg_of (by omega) (by omega))]
  unfold bnDigit
  have e : 48 + (d : Int) - 48 = (d : Int) := by omega
  rw [e, if_neg (fun z => z.elim h1 fun z => h2 z.1 (by omega))]
  congr 2
  by_cases c : b.st = "" ∧ d = 0
  · rw [if_pos c, if_pos ⟨c.1, by omega⟩]
  · rw [if_neg c, if_neg (fun z => c ⟨z.1, by omega⟩)]
theorem num_step {s : Sc} {b b2 : Bn} {o : Int} {pl : Nat} (a : At false s) (l : Lok s) (e : bnTake b o = (true, b2)) (d : b2.d = false) : Runs { s with tk := .num b, pl := pl } [o] [[]] { s with tk := .num b2, pl := pl + 1 } := by
  refine Runs.one (t := { s with tk := .num b2, pl := pl }) (wf_num a l) (go_step (t := .num b2) (fun h => by cases h) ?_ d)
  show ((bnTake b o).1, Tok.num (bnTake b o).2) = _
  rw [e]
/-- the digits of a number that is not 0 -/
theorem run_digs {s : Sc} (a : At false s) (l : Lok s) (sg : Int) (st : Str) (h0 : st ≠ "zero") (hs : st ≠ "digits") : ∀ (n : Nat), n ≠ 0 → ∀ pl : Nat, ∃ pl', Runs { s with tk := .num ⟨false, sg, 0, st⟩, pl := pl } (asc (dg n)) (Nils (asc (dg n))) { s with tk := .num ⟨false, sg, (n : Int), "digits"⟩, pl := pl' } := by
  intro n
  induction n using Nat.strongRecOn with
  | _ n ih =>
    intro hn pl
    by_cases c : n < 10
    · rw [dg_lt c]
      have e := bn_dig (b := ⟨false, sg, 0, st⟩) c h0 fun _ => hn
      have e2 : (if st = "" ∧ n = 0 then ("zero" : Str) else "digits") = "digits" := if_neg fun z => hn z.2
      have e3 : (0 : Int) * 10 + (n : Int) = (n : Int) := by omega
      refine ⟨pl + 1, num_step a l (b2 := ⟨false, sg, (n : Int), "digits"⟩) (e.trans ?_) rfl⟩
      show (true, Bn.mk false sg ((0 : Int) * 10 + (n : Int)) (if st = "" ∧ n = 0 then ("zero" : Str) else "digits")) = _
      rw [e2, e3]
    · obtain ⟨pl1, r⟩ := ih (n / 10) (by omega) (by omega) pl
      rw [dg_step (by omega)]
      have ea : asc (dg (n / 10) ++ [48 + n % 10]) = asc (dg (n / 10)) ++ [Int.ofNat (48 + n % 10)] := by
        unfold asc
        rw [List.map_append]
        rfl
      rw [ea, nils_app]
      have e := bn_dig (b := ⟨false, sg, ((n / 10 : Nat) : Int), "digits"⟩) (Nat.mod_lt n (by decide : 10 > 0)) (by show ("digits" : Str) ≠ "zero"; decide +kernel) fun z => absurd z (by show ¬ ("digits" : Str) = "minus"; decide +kernel)
      have e2 : (if ("digits" : Str) = "" ∧ n % 10 = 0 then ("zero" : Str) else "digits") = "digits" := if_neg fun z => absurd z.1 (by decide +kernel)
      have e3 : ((n / 10 : Nat) : Int) * 10 + ((n % 10 : Nat) : Int) = (n : Int) := by omega
      refine ⟨pl1 + 1, r.app (num_step a l (b2 := ⟨false, sg, (n : Int), "digits"⟩) (e.trans ?_) rfl)⟩
      show (true, Bn.mk false sg (((n / 10 : Nat) : Int) * 10 + ((n % 10 : Nat) : Int)) (if ("digits" : Str) = "" ∧ n % 10 = 0 then ("zero" : Str) else "digits")) = _
      rw [e2, e3]
theorem run_zeros {s : Sc} (a : At false s) (l : Lok s) (sg : Int) : ∀ (k : Nat) (w : Int) (pl : Nat), ∃ pl', Runs { s with tk := .num ⟨false, sg, w, "digits"⟩, pl := pl } (asc (List.replicate k 48)) (Nils (asc (List.replicate k 48))) { s with tk := .num ⟨false, sg, w * 10 ^ k, "digits"⟩, pl := pl' }
  | 0, w, pl => ⟨pl, by show _ = _; simp⟩
  | k + 1, w, pl => by
    have e := bn_dig (b := ⟨false, sg, w, "digits"⟩) (d := 0) (by decide) (by show ("digits" : Str) ≠ "zero"; decide +kernel) fun z => absurd z (by show ¬ ("digits" : Str) = "minus"; decide +kernel)
    have e2 : (if ("digits" : Str) = "" ∧ (0 : Nat) = 0 then ("zero" : Str) else "digits") = "digits" := if_neg fun z => absurd z.1 (by decide +kernel)
    obtain ⟨pl', r⟩ := run_zeros a l sg k (w * 10) (pl + 1)
    have ew : w * 10 * 10 ^ k = w * 10 ^ (k + 1) := by rw [Int.pow_succ, Int.mul_assoc, Int.mul_comm 10]
    rw [ew] at r
    have s1 : Runs { s with tk := .num ⟨false, sg, w, "digits"⟩, pl := pl } [48] [[]] { s with tk := .num ⟨false, sg, w * 10, "digits"⟩, pl := pl + 1 } := by
      refine num_step a l (b2 := ⟨false, sg, w * 10, "digits"⟩) (e.trans ?_) rfl
      show (true, Bn.mk false sg (w * 10 + ((0 : Nat) : Int)) (if ("digits" : Str) = "" ∧ (0 : Nat) = 0 then ("zero" : Str) else "digits")) = _
      rw [e2]
      simp
    exact ⟨pl', s1.app r⟩
theorem bnEnds_digits (d : Bool) (sg w : Int) : bnEnds ⟨d, sg, w, "digits"⟩ = true := by
  unfold bnEnds
  exact decide_eq_true (.inr rfl)
theorem run_num {s : Sc} (h : s.tk = .no) (a : At false s) (l : Lok s) (m e : Int) (nf : Nf m e) : ∃ pl, Runs s (numO m e) (Told (numO m e) (.lf "number" [.int m, .int e])) { (scEndValue { s with tk := .no }) with pl := pl } := by
  have open_ : Runs s [105] [[]] { s with tk := .num bn0, pl := s.pl + 1 } := by
    refine Runs.one (t := { s with tk := .num bn0 }) (wf_no h l) ?_
    unfold scTake
    rw [h]
    show scMark s 105 = _
    unfold scMark
    rw [if_neg (by decide), if_neg a.1, if_neg (fun z => by cases a.2.mpr z), if_neg (by decide), if_neg (by decide), if_pos rfl]
  have close : ∀ (b : Bn) (pl : Nat), b.d = false → bnEnds b = true → bnPair b = (m, e) → e ≤ 800 → Runs { s with tk := .num b, pl := pl } [101] [[.lf "number" [.int m, .int e]]] { (scEndValue { s with tk := .no }) with pl := pl + 1 } := fun b pl hd he hp h8 => by
    refine Runs.one (t := { (scEndValue { s with tk := .no }) with pl := pl }) (wf_num a l) ?_
    refine (go_end (t := .num { b with d := true }) (fun h => by cases h) ?_ rfl).trans ?_
    · show ((bnTake b 101).1, Tok.num (bnTake b 101).2) = _
      unfold bnTake
      rw [if_pos rfl, he, hp, decide_eq_true h8]
      rfl
    · have hp2 : bnPair { b with d := true } = (m, e) := hp
      show (true, [Ev.lf "number" [.int (bnPair { b with d := true }).1, .int (bnPair { b with d := true }).2]], _) = _
      rw [hp2]
      rfl
  have told : numO m e = [105] ++ (asc ((if m < 0 then [45] else []) ++ dg m.natAbs ++ List.replicate e.toNat 48) ++ [101]) := by
    unfold numO
    rw [List.append_assoc]
  have nz : asc ((if m < 0 then [45] else []) ++ dg m.natAbs ++ List.replicate e.toNat 48) ≠ [] := fun z => by
    have z := congrArg List.length z
    unfold asc at z
    rw [List.length_map, List.length_append, List.length_append] at z
    have := dg_pos m.natAbs
    have z : _ + _ + _ = 0 := z
    omega
  rw [told, ← told_app (by simp) (by simp), ← told_app nz (by simp)]
  rcases nf with ⟨rfl, rfl⟩ | ⟨hm, he0, he8⟩
  · have e1 : asc ((if (0 : Int) < 0 then [45] else []) ++ dg (0 : Int).natAbs ++ List.replicate (0 : Int).toNat 48) = [48] := by
      rw [if_neg (by decide)]
      show asc (([] ++ dg 0) ++ []) = _
      rw [List.append_nil, List.nil_append, dg_lt (by decide)]
      rfl
    rw [e1]
    have s1 : Runs { s with tk := .num bn0, pl := s.pl + 1 } [48] [[]] { s with tk := .num ⟨false, 1, 0, "zero"⟩, pl := s.pl + 1 + 1 } := by
      refine num_step a l ((bn_dig (b := bn0) (d := 0) (by decide) (by decide +kernel) fun z => absurd z (by decide +kernel)).trans ?_) rfl
      rfl
    exact ⟨_, open_.app (s1.app (close ⟨false, 1, 0, "zero"⟩ _ rfl (by decide +kernel) (by show nrm (1 * 0) 0 = _; rw [show (1 : Int) * 0 = 0 from rfl, nrm_zero]) (by decide)))⟩
  · have hn : m.natAbs ≠ 0 := fun z => hm (by have : m = 0 := Int.natAbs_eq_zero.mp z; rw [this]; rfl)
    have pairE : ∀ sg : Int, sg * (m.natAbs : Int) = m → bnPair ⟨false, sg, (m.natAbs : Int) * 10 ^ e.toNat, "digits"⟩ = (m, e) := fun sg hsg => by
      show nrm (sg * ((m.natAbs : Int) * 10 ^ e.toNat)) 0 = _
      rw [← Int.mul_assoc, hsg, nrm_is hm e.toNat rfl 0]
      congr 1
      omega
    by_cases hneg : m < 0
    · rw [if_pos hneg]
      have e1 : asc ([45] ++ dg m.natAbs ++ List.replicate e.toNat 48) = [45] ++ (asc (dg m.natAbs) ++ asc (List.replicate e.toNat 48)) := by
        unfold asc
        rw [List.append_assoc, List.map_append, List.map_append]
        rfl
      rw [e1, nils_app, nils_app]
      have s1 : Runs { s with tk := .num bn0, pl := s.pl + 1 } [45] [[]] { s with tk := .num ⟨false, -1, 0, "minus"⟩, pl := s.pl + 1 + 1 } := by
        refine num_step a l (b2 := ⟨false, -1, 0, "minus"⟩) ?_ rfl
        unfold bnTake
        rw [if_neg (by decide), if_pos rfl]
        unfold bnMinus
        rw [if_pos (by rfl)]
        rfl
      obtain ⟨p1, r1⟩ := run_digs a l (-1) "minus" (by decide +kernel) (by decide +kernel) m.natAbs hn (s.pl + 1 + 1)
      obtain ⟨p2, r2⟩ := run_zeros a l (-1) e.toNat (m.natAbs : Int) p1
      exact ⟨_, open_.app (Runs.app (Runs.app s1 (r1.app r2)) (close _ _ rfl (bnEnds_digits _ _ _) (pairE (-1) (by omega)) he8))⟩
    · rw [if_neg hneg]
      have e1 : asc ([] ++ dg m.natAbs ++ List.replicate e.toNat 48) = asc (dg m.natAbs) ++ asc (List.replicate e.toNat 48) := by
        unfold asc
        rw [List.nil_append, List.map_append]
      rw [e1, nils_app]
      obtain ⟨p1, r1⟩ := run_digs a l 1 "" (by decide +kernel) (by decide +kernel) m.natAbs hn (s.pl + 1)
      obtain ⟨p2, r2⟩ := run_zeros a l 1 e.toNat (m.natAbs : Int) p1
      exact ⟨_, open_.app (Runs.app (r1.app r2) (close _ _ rfl (bnEnds_digits _ _ _) (pairE 1 (by omega)) he8))⟩
/-- values that bencode has -/
def Kp (k : List Int) : Prop := k.length ≤ 200 ∧ ∀ c ∈ k, Point c
inductive Lb : Str → List PyData → Prop
  | number (m e : Int) (h : Nf m e) (hm : m.natAbs < 10 ^ 60) : Lb "number" [.int m, .int e]
  | bytes (os : List Int) (h : os.length ≤ 300) : Lb "bytes" [kd os]
mutual
def Vl.bf : Nat → Vl → Prop
  | _, .lf k r => Lb k r
  | 0, .ls _ => False
  | 0, .mp _ => False
  | n + 1, .ls xs => xs.length ≤ 49 ∧ bfL n xs
  | n + 1, .mp es => es.length ≤ 49 ∧ (es.map (·.1)).Pairwise (fun x y => HT.lexLt x y = true) ∧ (∀ e ∈ es, Kp e.1) ∧ bfM n es
def bfL : Nat → List Vl → Prop
  | _, [] => True
  | n, x :: xs => x.bf n ∧ bfL n xs
def bfM : Nat → List (List Int × Vl) → Prop
  | _, [] => True
  | n, (_, v) :: es => v.bf n ∧ bfM n es
end
theorem bfL_mem : ∀ {n : Nat} {xs : List Vl}, bfL n xs → ∀ x ∈ xs, x.bf n
  | _, [], _, x, h => absurd h (by simp)
  | _, y :: ys, h, x, hx => by
    rcases List.mem_cons.mp hx with e | e
    · rw [e]
      exact h.1
    · exact bfL_mem h.2 x e
theorem bfM_mem : ∀ {n : Nat} {es : List (List Int × Vl)}, bfM n es → ∀ e ∈ es, e.2.bf n
  | _, [], _, x, h => absurd h (by simp)
  | _, (k, v) :: ys, h, x, hx => by
    rcases List.mem_cons.mp hx with e | e
    · rw [e]
      exact h.1
    · exact bfM_mem h.2 x e
theorem bfM_of : ∀ {n : Nat} {es : List (List Int × Vl)}, (∀ e ∈ es, e.2.bf n) → bfM n es
  | _, [], _ => trivial
  | _, (k, v) :: ys, h => ⟨h _ (List.mem_cons_self ..), bfM_of fun e he => h e (List.mem_cons_of_mem _ he)⟩
theorem bfL_of : ∀ {n : Nat} {xs : List Vl}, (∀ x ∈ xs, x.bf n) → bfL n xs
  | _, [], _ => trivial
  | _, y :: ys, h => ⟨h _ (List.mem_cons_self ..), bfL_of fun e he => h e (List.mem_cons_of_mem _ he)⟩
theorem kd_inj {a b : List Int} (h : kd a = kd b) : a = b := by
  unfold kd at h
  injection h with h
  have e := congrArg (List.map fun d : PyData => match d with | .int i => i | _ => 0) h
  rw [List.map_map, List.map_map] at e
  have f : ∀ l : List Int, List.map ((fun d : PyData => match d with | .int i => i | _ => 0) ∘ PyData.int) l = l := fun l => by
    rw [show ((fun d : PyData => match d with | .int i => i | _ => 0) ∘ PyData.int) = id from rfl, List.map_id]
  rw [f, f] at e
  exact e
theorem lb_bytes {os : List Int} (hb : Lb "bytes" [kd os]) : os.length ≤ 300 := by
  generalize hk : ([kd os] : List PyData) = kk at hb
  generalize hs : (("bytes" : Str)) = ss at hb
  cases hb with
  | number m e h hm => exact absurd hs (by decide +kernel)
  | bytes os2 h =>
    injection hk with hk
    rw [kd_inj hk]
    exact h
abbrev Tk2 : Type := List Int × Ev
mutual
inductive Tks : Vl → List Tk2 → Prop
  | num (m e : Int) : Tks (.lf "number" [.int m, .int e]) [(numO m e, .lf "number" [.int m, .int e])]
  | bytes (os : List Int) : Tks (.lf "bytes" [kd os]) [(strO os, .lf "bytes" [kd os])]
  | ls {xs : List Vl} {ts : List Tk2} (h : TksL xs ts) : Tks (.ls xs) (([108], .op false) :: (ts ++ [([101], .cl)]))
  | mp {es es' : List (List Int × Vl)} {ts : List Tk2} (p : es'.Perm es) (h : TksM es' ts) : Tks (.mp es) (([100], .op true) :: (ts ++ [([101], .cl)]))
inductive TksL : List Vl → List Tk2 → Prop
  | nil : TksL [] []
  | cons {x : Vl} {xs : List Vl} {t ts : List Tk2} (h : Tks x t) (r : TksL xs ts) : TksL (x :: xs) (t ++ ts)
inductive TksM : List (List Int × Vl) → List Tk2 → Prop
  | nil : TksM [] []
  | cons {k : List Int} {x : Vl} {es : List (List Int × Vl)} {t ts : List Tk2} (h : Tks x t) (r : TksM es ts) : TksM ((k, x) :: es) ((strO (encs k), .ky k) :: (t ++ ts))
end
def octT (ts : List Tk2) : List Int := ts.flatMap (·.1)
def rowT (ts : List Tk2) : List (List Ev) := ts.flatMap fun t => Told t.1 t.2
theorem octT_app (a b : List Tk2) : octT (a ++ b) = octT a ++ octT b := List.flatMap_append
theorem rowT_app (a b : List Tk2) : rowT (a ++ b) = rowT a ++ rowT b := List.flatMap_append
theorem octT_cons (t : Tk2) (b : List Tk2) : octT (t :: b) = t.1 ++ octT b := List.flatMap_cons
theorem rowT_cons (t : Tk2) (b : List Tk2) : rowT (t :: b) = Told t.1 t.2 ++ rowT b := List.flatMap_cons
/-- where a value may begin -/
def Ready (s : Sc) : Prop := s.tk = .no ∧ s.wt ≠ "nothing" ∧ s.wt ≠ "key" ∧ Lok s
theorem Ready.at {s : Sc} (h : Ready s) : At false s := ⟨h.2.1, ⟨fun z => (by cases z), fun z => absurd z h.2.2.1⟩⟩
theorem lok_lv {s t : Sc} (l : Lok s) (e : t.lv = s.lv) (w : t.wt = "key" → t.lv ≠ []) : Lok t := ⟨w, by rw [e]; exact l.2.1, by rw [e]; exact l.2.2⟩
theorem wtOf_key {lv : List Lv} (h : wtOf lv = "key") : lv ≠ [] := fun e => by
  rw [e] at h
  exact absurd h (by decide +kernel)
theorem run_open {s : Sc} (h : Ready s) (m : Bool) (hl : s.lv.length < 24) : Runs s [if m = true then 100 else 108] [[.op m]] { s with lv := ⟨m, []⟩ :: s.lv, wt := if m = true then "key" else "value", pl := s.pl + 1 } := by
  refine Runs.one (t := { s with lv := ⟨m, []⟩ :: s.lv, wt := if m = true then "key" else "value" }) (wf_no h.1 h.2.2.2) ?_
  unfold scTake
  rw [h.1]
  show scMark s _ = _
  unfold scMark scGrow
  have := Nat.ne_of_lt hl
  cases m <;> simp [h.2.1, h.2.2.1, this, h.1]
theorem run_close {s : Sc} {l : Lv} {r : List Lv} (h : s.tk = .no) (k : Lok s) (e : s.lv = l :: r) (hw : s.wt ≠ "entry") : Runs s [101] [[.cl]] { (scEndValue { s with lv := r }) with pl := s.pl + 1 } := by
  refine Runs.one (t := scEndValue { s with lv := r }) (wf_no h k) ?_
  unfold scTake
  rw [h]
  show scMark s 101 = _
  unfold scMark scClose
  rw [if_pos rfl, e]
  show (if s.wt = "entry" then _ else _) = _
  rw [if_neg hw, h]
def Val (n : Nat) : Prop := ∀ (v : Vl) (ts : List Tk2) (s : Sc), v.bf n → Tks v ts → Ready s → s.lv.length + n ≤ 24 → ∃ s', Runs s (octT ts) (rowT ts) s' ∧ s'.tk = .no ∧ s'.lv = s.lv ∧ s'.wt = wtOf s.lv
theorem run_ls {n : Nat} (H : Val n) : ∀ (xs : List Vl) (ts : List Tk2) (s : Sc) (r : List Lv), bfL n xs → TksL xs ts → Ready s → s.wt = "value" → s.lv = ⟨false, []⟩ :: r → r.length + 1 + n ≤ 24 → ∃ s', Runs s (octT ts) (rowT ts) s' ∧ s'.tk = .no ∧ s'.lv = s.lv ∧ s'.wt = "value"
  | [], _, s, r, _, .nil, hr, hw, hlv, hn => ⟨s, rfl, hr.1, rfl, hw⟩
  | x :: xs, _, s, r, hb, .cons (t := t) (ts := ts) h1 h2, hr, hw, hlv, hn => by
    obtain ⟨s1, r1, a1, a2, a3⟩ := H x t s hb.1 h1 hr (by rw [hlv]; exact hn)
    have a3 : s1.wt = "value" := by
      rw [a3, hlv]
      rfl
    have ready1 : Ready s1 := ⟨a1, by rw [a3]; decide +kernel, by rw [a3]; decide +kernel, lok_lv hr.2.2.2 a2 fun z => by rw [a3] at z; exact absurd z (by decide +kernel)⟩
    obtain ⟨s2, r2, b1, b2, b3⟩ := run_ls H xs ts s1 r hb.2 h2 ready1 a3 (by rw [a2, hlv]) hn
    rw [octT_app, rowT_app]
    exact ⟨s2, r1.app r2, b1, by rw [b2, a2], b3⟩
theorem encs_small {k : List Int} (h : Kp k) : (encs k).length < sizeLine := Nat.lt_of_le_of_lt (len_encs k) (Nat.lt_of_le_of_lt (Nat.mul_le_mul_left 4 h.1) (by decide))
theorem run_mp {n : Nat} (H : Val n) : ∀ (es : List (List Int × Vl)) (ts : List Tk2) (s : Sc) (ks : List (List Int)) (r : List Lv), bfM n es → (∀ e ∈ es, Kp e.1) → TksM es ts → s.tk = .no → s.wt = "key" → Lok s → s.lv = ⟨true, ks⟩ :: r → r.length + 1 + n ≤ 24 → (ks ++ es.map (·.1)).Nodup → ks.length + es.length ≤ 1000 →
    ∃ s', Runs s (octT ts) (rowT ts) s' ∧ s'.tk = .no ∧ s'.lv = ⟨true, ks ++ es.map (·.1)⟩ :: r ∧ s'.wt = "key" ∧ Lok s'
  | [], _, s, ks, r, _, _, .nil, h1, hw, hk, hlv, hn, _, _ => ⟨s, rfl, h1, by simpa using hlv, hw, hk⟩
  | (k, x) :: es, _, s, ks, r, hb, hp, .cons (t := t) (ts := ts) q1 q2, h1, hw, hk, hlv, hn, nd, hl => by
    have hl : ks.length + (es.length + 1) ≤ 1000 := hl
    have hkp := hp _ (List.mem_cons_self ..)
    have nk : k ∉ ks := fun z => by
      rw [List.nodup_append] at nd
      exact nd.2.2 k z k (by simp) rfl
    have hf : scFresh s.lv k = true := by
      rw [hlv]
      simp [scFresh, nk]
    have e2 : scNote s.lv k = ⟨true, ks ++ [k]⟩ :: r := by
      rw [hlv]
      simp [scNote, nk]
    obtain ⟨pl, r0⟩ := run_key h1 ⟨by rw [hw]; decide +kernel, fun _ => hw, fun _ => rfl⟩ hk k hkp.2 (encs_small hkp) hf
    rw [e2] at r0
    have lok0 : Lok { s with tk := .no, wt := "entry", lv := ⟨true, ks ++ [k]⟩ :: r, pl := pl } := by
      refine ⟨fun z => absurd z (by show ¬ ("entry" : Str) = "key"; decide +kernel), by show r.length + 1 ≤ 24; omega, fun l hl2 => ?_⟩
      rcases List.mem_cons.mp hl2 with e | e
      · rw [e]
        exact small1000 (by show (ks ++ [k]).length ≤ 1000; rw [List.length_append]; show ks.length + 1 ≤ 1000; omega)
      · exact hk.2.2 l (by rw [hlv]; exact List.mem_cons_of_mem _ e)
    obtain ⟨s1, r1, a1, a2, a3⟩ := H x t _ hb.1 q1 ⟨rfl, by show ("entry" : Str) ≠ "nothing"; decide +kernel, by show ("entry" : Str) ≠ "key"; decide +kernel, lok0⟩ hn
    have a2 : s1.lv = ⟨true, ks ++ [k]⟩ :: r := a2
    have a3 : s1.wt = "key" := a3
    obtain ⟨s2, r2, b1, b2, b3, b4⟩ := run_mp H es ts s1 (ks ++ [k]) r hb.2 (fun e he => hp e (List.mem_cons_of_mem _ he)) q2 a1 a3 (lok_lv lok0 a2 fun _ => by rw [a2]; simp) a2 hn (by rw [List.append_assoc]; exact nd) (by rw [List.length_append]; show ks.length + 1 + es.length ≤ 1000; omega)
    rw [octT_cons, rowT_cons, octT_app, rowT_app]
    refine ⟨s2, r0.app (r1.app r2), b1, ?_, b3, b4⟩
    rw [b2, List.append_assoc]
    rfl
theorem run_val : ∀ n, Val n := by
    intro n
    induction n with
    | zero =>
      intro v ts s hb ht hr hn
      cases ht with
      | num m e =>
        have hb : Lb "number" [.int m, .int e] := hb
        have nf : Nf m e := by cases hb; assumption
        obtain ⟨pl, r⟩ := run_num hr.1 hr.at hr.2.2.2 m e nf
        refine ⟨{ (scEndValue { s with tk := .no }) with pl := pl }, ?_, rfl, rfl, rfl⟩
        rw [octT_cons, rowT_cons]
        exact r.app rfl
      | bytes os =>
        have hl := lb_bytes hb
        obtain ⟨pl, r⟩ := run_bytes hr.1 hr.at hr.2.2.2 os (small1000 (by omega))
        refine ⟨{ (scEndValue { s with tk := .no }) with pl := pl }, ?_, rfl, rfl, rfl⟩
        rw [octT_cons, rowT_cons]
        exact r.app rfl
      | ls h => exact (show False from hb).elim
      | mp p h => exact (show False from hb).elim
    | succ n ih =>
      intro v ts s hb ht hr hn
      cases ht with
      | num m e =>
        have hb : Lb "number" [.int m, .int e] := hb
        have nf : Nf m e := by cases hb; assumption
        obtain ⟨pl, r⟩ := run_num hr.1 hr.at hr.2.2.2 m e nf
        refine ⟨{ (scEndValue { s with tk := .no }) with pl := pl }, ?_, rfl, rfl, rfl⟩
        rw [octT_cons, rowT_cons]
        exact r.app rfl
      | bytes os =>
        have hl := lb_bytes hb
        obtain ⟨pl, r⟩ := run_bytes hr.1 hr.at hr.2.2.2 os (small1000 (by omega))
        refine ⟨{ (scEndValue { s with tk := .no }) with pl := pl }, ?_, rfl, rfl, rfl⟩
        rw [octT_cons, rowT_cons]
        exact r.app rfl
      | ls h =>
        have hb : _ ∧ _ := hb
        have r0 := run_open hr false (by omega)
        have lok0 : Lok { s with lv := ⟨false, []⟩ :: s.lv, wt := "value", pl := s.pl + 1 } := by
          refine ⟨fun z => absurd z (by show ¬ ("value" : Str) = "key"; decide +kernel), by show s.lv.length + 1 ≤ 24; omega, fun l hl2 => ?_⟩
          rcases List.mem_cons.mp hl2 with e | e
          · rw [e]
            exact small1000 (Nat.zero_le _)
          · exact hr.2.2.2.2.2 l e
        obtain ⟨s1, r1, a1, a2, a3⟩ := run_ls ih _ _ { s with lv := ⟨false, []⟩ :: s.lv, wt := "value", pl := s.pl + 1 } s.lv hb.2 h ⟨hr.1, by show ("value" : Str) ≠ "nothing"; decide +kernel, by show ("value" : Str) ≠ "key"; decide +kernel, lok0⟩ rfl rfl (by omega)
        have a2 : s1.lv = ⟨false, []⟩ :: s.lv := a2
        have r2 := run_close a1 (lok_lv lok0 a2 fun _ => by rw [a2]; simp) a2 (by rw [a3]; decide +kernel)
        rw [octT_cons, rowT_cons, octT_app, rowT_app]
        exact ⟨{ (scEndValue { s1 with lv := s.lv }) with pl := s1.pl + 1 }, r0.app (r1.app r2), a1, rfl, rfl⟩
      | mp p h =>
        rename_i es es' ts'
        have hb : _ ∧ _ ∧ _ ∧ _ := hb
        have r0 := run_open hr true (by omega)
        have lok0 : Lok { s with lv := ⟨true, []⟩ :: s.lv, wt := "key", pl := s.pl + 1 } := by
          refine ⟨fun z => by simp, by show s.lv.length + 1 ≤ 24; omega, fun l hl2 => ?_⟩
          rcases List.mem_cons.mp hl2 with e | e
          · rw [e]
            exact small1000 (Nat.zero_le _)
          · exact hr.2.2.2.2.2 l e
        have nd : (([] : List (List Int)) ++ es'.map (·.1)).Nodup := by
          rw [List.nil_append, (p.map _).nodup_iff]
          exact hb.2.1.imp fun {a b} q e => by
            subst e
            rw [lexLt_irr] at q
            cases q
        obtain ⟨s1, r1, a1, a2, a3, a4⟩ := run_mp ih es' _ { s with lv := ⟨true, []⟩ :: s.lv, wt := "key", pl := s.pl + 1 } [] s.lv (bfM_of fun e he => bfM_mem hb.2.2.2 e (p.mem_iff.mp he)) (fun e he => hb.2.2.1 e (p.mem_iff.mp he)) h hr.1 rfl lok0 rfl (by omega) nd (by rw [p.length_eq]; have := hb.1; show 0 + _ ≤ 1000; omega)
        have r2 := run_close a1 a4 a2 (by rw [a3]; decide +kernel)
        rw [octT_cons, rowT_cons, octT_app, rowT_app]
        exact ⟨{ (scEndValue { s1 with lv := s.lv }) with pl := s1.pl + 1 }, r0.app (r1.app r2), a1, rfl, rfl⟩

/-! ### runs, step by step -/
theorem Runs.at : ∀ {os : List Int} {rs : List (List Ev)} {s t : Sc}, Runs s os rs t → rs.length = os.length ∧ os.foldl scStep s = t ∧ ∀ (k : Nat) (o : Int), os[k]? = some o → Wf ((os.take k).foldl scStep s) ∧ (scTake ((os.take k).foldl scStep s) o).1 = true ∧ rs[k]? = some (scTake ((os.take k).foldl scStep s) o).2.1
  | [], [], s, t, h => ⟨rfl, (show t = s from h).symm, fun k o e => by simp at e⟩
  | o :: os, r :: rs, s, t, h => by
    obtain ⟨h1, h2, h3, h4⟩ := h
    obtain ⟨i1, i2, i3⟩ := Runs.at h4
    refine ⟨congrArg (· + 1) i1, i2, fun k o' e => ?_⟩
    cases k with
    | zero =>
      cases (show some o = some _ from e)
      exact ⟨h1, h2, by rw [← h3]; rfl⟩
    | succ k => exact i3 k o' (by simpa using e)
  | [], _ :: _, _, _, h => h.elim
  | _ :: _, [], _, _, h => h.elim
theorem step_at {os : List Int} {k : Nat} {o : Int} (s : Sc) (h : os[k]? = some o) : (os.take (k + 1)).foldl scStep s = scStep ((os.take k).foldl scStep s) o := by
  rw [List.take_succ, h, List.foldl_append]
  rfl
def StAt (s : Sc) (os : List Int) (i : Nat) : Sc := (os.take i).foldl scStep s
theorem ready0 : Ready sc0 := ⟨rfl, by show ("value" : Str) ≠ "nothing"; decide +kernel, by show ("value" : Str) ≠ "key"; decide +kernel, fun z => absurd z (by show ¬ ("value" : Str) = "key"; decide +kernel), Nat.zero_le _, fun l hl => absurd hl (by simp [sc0])⟩

/-! ### what the tokens tell builds the value -/
def evT (ts : List Tk2) : List Ev := ts.map (·.2)
theorem evT_app (a b : List Tk2) : evT (a ++ b) = evT a ++ evT b := List.map_append
theorem flat_told (os : List Int) (e : Ev) : (Told os e).flatten = [e] := by
  unfold Told Nils
  rw [List.flatten_append, List.flatten_replicate_nil]
  rfl
theorem flat_rowT : ∀ (ts : List Tk2), (rowT ts).flatten = evT ts
  | [] => rfl
  | t :: ts => by
    rw [rowT_cons, List.flatten_append, flat_told, flat_rowT ts]
    rfl
def RunT (n : Nat) : Prop := ∀ (v : Vl) (ts : List Tk2), v.bf n → Tks v ts → ∀ (st : Bs) (rest : List Ev), st.fs.length + n ≤ 900 → st.ready → st.val = none → (st.putv v).okRun rest → st.okRun (evT ts ++ rest) ∧ st.run (evT ts ++ rest) = (st.putv v).run rest
theorem run_tsL {n : Nat} (IH : RunT n) : ∀ (xs : List Vl) (ts : List Tk2), bfL n xs → TksL xs ts → ∀ (f : Pf) (fs : List Pf) (val : Option Vl) (rest : List Ev), f.m = false → fs.length + 1 + n ≤ 900 → f.ins.length + xs.length ≤ 900 → val = none →
    (Bs.mk (⟨f.m, f.k, f.ins ++ xs.map fun x => (([] : List Int), x)⟩ :: fs) val).okRun rest → (Bs.mk (f :: fs) val).okRun (evT ts ++ rest) ∧ (Bs.mk (f :: fs) val).run (evT ts ++ rest) = (Bs.mk (⟨f.m, f.k, f.ins ++ xs.map fun x => (([] : List Int), x)⟩ :: fs) val).run rest
  | [], _, _, .nil, f, fs, val, rest, hm, hd, hl, hv, hr => by
    have e : f.ins ++ ([] : List Vl).map (fun x => (([] : List Int), x)) = f.ins := List.append_nil _
    rw [e] at hr ⊢
    exact ⟨hr, rfl⟩
  | x :: xs, _, h, .cons (t := t) (ts := ts) hx hxs, f, fs, val, rest, hm, hd, hl, hv, hr => by
    have hl : f.ins.length + (xs.length + 1) ≤ 900 := hl
    have ep : (Bs.mk (f :: fs) val).putv x = Bs.mk (⟨f.m, f.k, f.ins ++ [(([] : List Int), x)]⟩ :: fs) val := by
      show Bs.mk (⟨f.m, f.k, f.ins ++ [(if f.m then f.k.getD [] else [], x)]⟩ :: fs) val = _
      rw [hm]
      rfl
    have e1 : f.ins ++ (x :: xs).map (fun x => (([] : List Int), x)) = (f.ins ++ [(([] : List Int), x)]) ++ xs.map fun x => (([] : List Int), x) := by
      rw [List.map_cons, List.append_assoc]
      rfl
    rw [e1] at hr ⊢
    obtain ⟨q1, q2⟩ := run_tsL IH xs ts h.2 hxs ⟨f.m, f.k, f.ins ++ [(([] : List Int), x)]⟩ fs val rest hm hd (by show (f.ins ++ [_]).length + _ ≤ 900; rw [List.length_append]; show _ + 1 + _ ≤ 900; omega) hv hr
    rw [evT_app, List.append_assoc]
    obtain ⟨p1, p2⟩ := IH x t h.1 hx (Bs.mk (f :: fs) val) (evT ts ++ rest) hd (fun f' r e => by
      cases e
      exact ⟨fun z => absurd (hm.symm.trans z) (by decide), by omega⟩) hv (by rw [ep]; exact q1)
    refine ⟨p1, ?_⟩
    rw [p2, ep, q2]
theorem run_tsM {n : Nat} (IH : RunT n) : ∀ (es : List (List Int × Vl)) (ts : List Tk2), (∀ e ∈ es, e.2.bf n) → TksM es ts → ∀ (k : Option (List Int)) (ins : List (List Int × Vl)) (fs : List Pf) (val : Option Vl) (rest : List Ev), fs.length + 1 + n ≤ 900 → ins.length + es.length ≤ 900 → val = none →
    (Bs.mk (⟨true, lastK k es, ins ++ es⟩ :: fs) val).okRun rest → (Bs.mk (⟨true, k, ins⟩ :: fs) val).okRun (evT ts ++ rest) ∧ (Bs.mk (⟨true, k, ins⟩ :: fs) val).run (evT ts ++ rest) = (Bs.mk (⟨true, lastK k es, ins ++ es⟩ :: fs) val).run rest
  | [], _, _, .nil, k, ins, fs, val, rest, hd, hl, hv, hr => by
    rw [List.append_nil] at hr ⊢
    exact ⟨hr, rfl⟩
  | (k0, x) :: es, _, h, .cons (t := t) (ts := ts) hx hxs, k, ins, fs, val, rest, hd, hl, hv, hr => by
    have hl : ins.length + (es.length + 1) ≤ 900 := hl
    have ep : (Bs.mk (⟨true, some k0, ins⟩ :: fs) val).putv x = Bs.mk (⟨true, some k0, ins ++ [(k0, x)]⟩ :: fs) val := rfl
    have e1 : ins ++ (k0, x) :: es = (ins ++ [(k0, x)]) ++ es := by
      rw [List.append_assoc]
      rfl
    have e3 : lastK k ((k0, x) :: es) = lastK (some k0) es := rfl
    rw [e1, e3] at hr ⊢
    obtain ⟨q1, q2⟩ := run_tsM IH es ts (fun e he => h e (List.mem_cons_of_mem _ he)) hxs (some k0) (ins ++ [(k0, x)]) fs val rest hd (by rw [List.length_append]; show _ + 1 + _ ≤ 900; omega) hv hr
    have e2 : evT ((strO (encs k0), .ky k0) :: (t ++ ts)) ++ rest = .ky k0 :: (evT t ++ (evT ts ++ rest)) := by
      show (Ev.ky k0 :: evT (t ++ ts)) ++ rest = _
      rw [evT_app, List.cons_append, List.append_assoc]
    rw [e2]
    obtain ⟨p1, p2⟩ := IH x t (h (k0, x) (List.mem_cons_self ..)) hx (Bs.mk (⟨true, some k0, ins⟩ :: fs) val) (evT ts ++ rest) hd (fun f' r e => by
      cases e
      exact ⟨fun _ => ⟨k0, rfl⟩, by show ins.length ≤ 900; omega⟩) hv (by rw [ep]; exact q1)
    refine ⟨⟨⟨_, _, rfl⟩, hv, p1⟩, ?_⟩
    show (Bs.mk (⟨true, some k0, ins⟩ :: fs) val).run _ = _
    rw [p2, ep, q2]
theorem run_ts : ∀ n, RunT n := by
  intro n
  induction n with
  | zero =>
    intro v ts hb ht st rest hd rdy hv hr
    cases ht with
    | num m e => exact ⟨⟨rdy, hv, hr⟩, rfl⟩
    | bytes os => exact ⟨⟨rdy, hv, hr⟩, rfl⟩
    | ls h => exact (show False from hb).elim
    | mp p h => exact (show False from hb).elim
  | succ n ih =>
    intro v ts hb ht st rest hd rdy hv hr
    cases ht with
    | num m e => exact ⟨⟨rdy, hv, hr⟩, rfl⟩
    | bytes os => exact ⟨⟨rdy, hv, hr⟩, rfl⟩
    | ls h =>
      rename_i xs ts'
      have hb : xs.length ≤ 49 ∧ bfL n xs := hb
      have e : evT (([108], .op false) :: (ts' ++ [([101], .cl)])) ++ rest = .op false :: (evT ts' ++ (.cl :: rest)) := by
        show (Ev.op false :: evT (ts' ++ [([101], Ev.cl)])) ++ rest = _
        rw [evT_app, List.cons_append, List.append_assoc]
        rfl
      rw [e]
      have cl2 : (Bs.mk (⟨false, none, [] ++ xs.map fun x => (([] : List Int), x)⟩ :: st.fs) st.val).okRun (.cl :: rest) ∧ (Bs.mk (⟨false, none, [] ++ xs.map fun x => (([] : List Int), x)⟩ :: st.fs) st.val).run (.cl :: rest) = (st.putv (.ls xs)).run rest := by
        have e2 : (Bs.mk (⟨false, none, [] ++ xs.map fun x => (([] : List Int), x)⟩ :: st.fs) st.val).step .cl = st.putv (.ls xs) := by
          show (Bs.mk st.fs st.val).putv (.ls ((([] : List (List Int × Vl)) ++ xs.map fun x => (([] : List Int), x)).map fun y : List Int × Vl => y.2)) = _
          rw [List.nil_append, List.map_map]
          have e3 : xs.map ((fun x : List Int × Vl => x.2) ∘ fun x : Vl => (([] : List Int), x)) = xs := by
            rw [show ((fun x : List Int × Vl => x.2) ∘ fun x : Vl => (([] : List Int), x)) = id from rfl, List.map_id]
          rw [e3]
        refine ⟨⟨⟨_, _, rfl, fun q => (by cases q), ?_, rdy⟩, hv, by rw [e2]; exact hr⟩, ?_⟩
        · show ([] ++ xs.map fun x => (([] : List Int), x)).length ≤ 900
          rw [List.nil_append, List.length_map]
          omega
        · show ((Bs.mk (⟨false, none, [] ++ xs.map fun x => (([] : List Int), x)⟩ :: st.fs) st.val).step .cl).run rest = _
          rw [e2]
      obtain ⟨q1, q2⟩ := run_tsL ih xs _ hb.2 h ⟨false, none, []⟩ st.fs st.val (.cl :: rest) rfl (by omega) (by show 0 + _ ≤ 900; omega) hv cl2.1
      refine ⟨⟨by show st.fs.length ≤ 900; omega, hv, q1⟩, ?_⟩
      show (Bs.mk (⟨false, none, []⟩ :: st.fs) st.val).run _ = _
      rw [q2, cl2.2]
    | mp p h =>
      rename_i es gs ts'
      have hb : es.length ≤ 49 ∧ (es.map (·.1)).Pairwise (fun x y => HT.lexLt x y = true) ∧ (∀ e ∈ es, Kp e.1) ∧ bfM n es := hb
      have e : evT (([100], .op true) :: (ts' ++ [([101], .cl)])) ++ rest = .op true :: (evT ts' ++ (.cl :: rest)) := by
        show (Ev.op true :: evT (ts' ++ [([101], Ev.cl)])) ++ rest = _
        rw [evT_app, List.cons_append, List.append_assoc]
        rfl
      rw [e]
      have hxl : gs.length ≤ 49 := by
        rw [p.length_eq]
        exact hb.1
      have hso : sortM ([] ++ gs) = es := (sortM_uniq p.symm hb.2.1).symm
      have cl2 : (Bs.mk (⟨true, lastK none gs, [] ++ gs⟩ :: st.fs) st.val).okRun (.cl :: rest) ∧ (Bs.mk (⟨true, lastK none gs, [] ++ gs⟩ :: st.fs) st.val).run (.cl :: rest) = (st.putv (.mp es)).run rest := by
        have e2 : (Bs.mk (⟨true, lastK none gs, [] ++ gs⟩ :: st.fs) st.val).step .cl = st.putv (.mp es) := by
          show (Bs.mk st.fs st.val).putv (.mp (sortM ([] ++ gs))) = _
          rw [hso]
        refine ⟨⟨⟨_, _, rfl, fun _ => ((p.map (·.1)).nodup_iff).mpr (strict_nodup hb.2.1), ?_, rdy⟩, hv, by rw [e2]; exact hr⟩, ?_⟩
        · show ([] ++ gs).length ≤ 900
          rw [List.nil_append]
          omega
        · show ((Bs.mk (⟨true, lastK none gs, [] ++ gs⟩ :: st.fs) st.val).step .cl).run rest = _
          rw [e2]
      obtain ⟨q1, q2⟩ := run_tsM ih gs _ (fun e he => bfM_mem hb.2.2.2 e (p.mem_iff.mp he)) h none [] st.fs st.val (.cl :: rest) (by omega) (by show 0 + _ ≤ 900; omega) hv cl2.1
      refine ⟨⟨by show st.fs.length ≤ 900; omega, hv, q1⟩, ?_⟩
      show (Bs.mk (⟨true, none, []⟩ :: st.fs) st.val).run _ = _
      rw [q2, cl2.2]
theorem run_tokens {n : Nat} {t : Vl} {ts : List Tk2} (h : t.bf n) (q : Tks t ts) (hn : n ≤ 900) : (Bs.mk [] none).okRun (rowT ts).flatten ∧ (Bs.mk [] none).run (rowT ts).flatten = ⟨[], some t⟩ := by
  have q := run_ts n t ts h q ⟨[], none⟩ [] (by show 0 + n ≤ 900; omega) (fun f r e => by cases e) rfl trivial
  rw [List.append_nil] at q
  rw [flat_rowT]
  exact q
theorem okRun_app : ∀ (a b : List Ev) (st : Bs), st.okRun (a ++ b) → st.okRun a ∧ (st.run a).okRun b
  | [], _, _, h => ⟨trivial, h⟩
  | x :: a, b, st, h => by
    obtain ⟨i1, i2⟩ := okRun_app a b (st.step x) h.2.2
    exact ⟨⟨h.1, h.2.1, i1⟩, i2⟩
theorem run_app (a b : List Ev) (st : Bs) : st.run (a ++ b) = (st.run a).run b := List.foldl_append

/-! ### the text is read -/
theorem ch_of {o : List Addr} {H H' : Hp} (w : Ow o H H') (t : Tk H H') : Ch o H H' := fun x u h n => by
  by_cases m : x ∈ o
  · obtain ⟨xs, rfl⟩ := n m
    exact t _ _ h
  · exact w x u m h
theorem ow_of {o : List Addr} {H H' : Hp} (c : Ch o H H') : Ow o H H' := fun x u n h => c x u h fun z => absurd z n




def sp__take_all (K : Frg) : Sp := sp2 fun p e H Q _ => ∃ b fl st cs q es, p = .ref b ∧ e = .ref q ∧ BAt K H b fl st cs ∧ EvL H q es ∧ st.okRun es ∧ q ∉ own b fl cs ∧ ∀ cs' H', BAt K H' b fl (st.run es) cs' → (∀ x ∈ own b fl cs', x ∈ own b fl cs ∨ H x = none) → Ch (own b fl cs) H H' → Q .non H'
def sp_value_of_text (K : Frg) : Sp := sp2 fun p o H Q _ => ∃ (A : ScA) (a : Addr) (os : List Int) (rs : List (List Ev)) (s' : Sc) (t : Vl), p = .ref A.a ∧ o = .ref a ∧ (H a = some (.lst (os.map V.int)) ∨ H a = some (.tup (os.map V.int))) ∧ a ∉ A.own ∧ ScAt K H A sc0 ∧ Runs sc0 os rs s' ∧ s'.wt = "nothing" ∧
  (Bs.mk [] none).okRun rs.flatten ∧ (Bs.mk [] none).run rs.flatten = ⟨[], some t⟩ ∧ ∀ v H', Tp H' v t.dat → Ch A.own H H' → Q v H'
def ReadSp (H : Hp) (o : V) (Q : VK) : Prop := ∃ (a : Addr) (os : List Int) (rs : List (List Ev)) (s' : Sc) (t : Vl), o = .ref a ∧ (H a = some (.lst (os.map V.int)) ∨ H a = some (.tup (os.map V.int))) ∧ Runs sc0 os rs s' ∧ s'.wt = "nothing" ∧
  (Bs.mk [] none).okRun rs.flatten ∧ (Bs.mk [] none).run rs.flatten = ⟨[], some t⟩ ∧ ∀ v H', Tp H' v t.dat → Same H H' → Q v H'
def sp_read_bencode (K : Frg) : Sp := sp1 fun o H Q _ => ReadSp H o Q
def sp__law_read (K : Frg) : Sp := sp1 fun o H Q _ => ReadSp H o Q
section
variable {P : Program} {w : World} {K : PySem.W.Frag} {mg : Str → Option Value} {base : Heap} {f : Addr} {fd : FuncData}
theorem ok__take_all (F : FunD K "_take_all" "_take_all" (defArgs s__take_all) (defBody s__take_all) (defScope s__take_all) [] [] (glAd "_take_all" K) fd) (m : mg "_take_all" = some (.ref (glAd "_take_all" K))) (nb : Nm K mg) (m_Builder_take : Met P w K mg base 3 (C_Builder K) "take" (sp_Builder_take K) []) : Cal P w K mg base 4 "_take_all" (sp__take_all K) [] := by
  refine calD F m sc__take_all (fun _ _ _ _ _ _ us hl => match us, hl with | [_, _], _ => rfl) len2 (fun cdv A outer s H vs Q E hr h => ⟨_, (pss_one (ps_for PassesOwn.never rfl (pi_list (pv 1)) (pg_name (i := 2) sc__take_all.nd rfl (Or.inl rfl))
    (pss_one (ps_expr (pe_mt m_Builder_take hr (by decide) (pv 0) (pa_cons (pv 2) pa_nil)))))), ?_⟩)
  obtain ⟨_, _, rfl, b, fl, st, cs, q, es, rfl, rfl, B, ⟨vs, hq, tp⟩, ok, nq, h⟩ := h
  walk_at "rd"
  refine ⟨q, rfl, ⟨vs, SqL.of hq⟩, ?_⟩
  have vl : vs.length = es.length := evl_len tp
  refine r_eachL (xs := vs) (fun i σ H' => ∃ (cs' : List Cf) (y : Option V), BAt K H' b fl (st.run (es.take i)) cs' ∧ (∀ x ∈ own b fl cs', x ∈ own b fl cs ∨ H x = none) ∧ Ch (own b fl cs) H H' ∧ σ = [some (.ref b), some (.ref q), y]) ⟨cs, _, B, fun x hx => .inl hx, Ch.refl, rfl⟩ (fun i σ H' hh => ?_) ?_ ?_
  · obtain ⟨_, _, _, _, c, _⟩ := hh
    exact SqL.of (c.get nq hq)
  · rintro i x σ H' hx ⟨cs', y, B', fr, c, rfl⟩
    obtain ⟨d, hd1, hd2⟩ := tpAll_get tp hx
    unfold evD at hd1
    rw [List.getElem?_map] at hd1
    obtain ⟨ev, hev, rfl⟩ := Option.map_eq_some_iff.mp hd1
    obtain ⟨val, vn⟩ := okRun_at es _ i _ ok hev
    obtain ⟨⟨dx, bv, hb, hbv⟩, _, _, _, _⟩ := id B'
    walk_at "rd"
    refine r_mget hb no_Builder_take ?_
    walk_at "rd"
    refine ⟨_, _, rfl, b, fl, _, cs', ev, rfl, B', Tp.tk c.tk _ _ hd2, val, vn, fun cs2 H2 B2 fr2 w2 t2 => ?_⟩
    walk_at "rd"
    refine ⟨cs2, _, by rw [run_take hev]; exact B2, fun x hx => ?_, (ch_of w2 t2).ch fr c, rfl⟩
    rcases fr2 x hx with z | z
    · exact fr x z
    · exact c.fresh z
  · rintro σ H' ⟨cs', y, B', fr, c, rfl⟩
    rw [vl, List.take_length] at B'
    walk_at "rd"
    exact h cs' H' B' fr c
theorem ok_value_of_text (F : FunD K "value_of_text" "value_of_text" (defArgs s_value_of_text) (defBody s_value_of_text) (defScope s_value_of_text) [] [] (glAd "value_of_text" K) fd) (m : mg "value_of_text" = some (.ref (glAd "value_of_text" K))) (nb : Nm K mg) (m_BencodeScanner_step : Met P w K mg base 8 (C_BencodeScanner K) "step" (sp_BencodeScanner_step K) []) (m_BencodeScanner_end : Met P w K mg base 1 (C_BencodeScanner K) "end" (sp_BencodeScanner_end K) []) (k_Builder : Mak P w K mg base 1 "Builder" (C_Builder K) (sp_Builder___init__ K) []) (c__take_all : Cal P w K mg base 4 "_take_all" (sp__take_all K) []) : Cal P w K mg base 9 "value_of_text" (sp_value_of_text K) [] := by
  refine calD F m sc_value_of_text (fun _ _ _ _ _ _ us hl => match us, hl with | [_, _], _ => rfl) len2 (fun cdv A outer s H vs Q E hr h => ⟨_, (pss_cons (ps_set (i := 2) sc_value_of_text.nd rfl (Or.inl rfl) (pe_mk0 k_Builder hr (by decide) rfl))
    (pss_cons (ps_for PassesOwn.never rfl (pi_or (pi_list (pv 1)) (pi_tup (pv 1))) (pg_name (i := 3) sc_value_of_text.nd rfl (Or.inl rfl))
    (pss_one (ps_expr (pe_c c__take_all hr (by decide) rfl (pa_cons (pv 2) (pa_cons (pe_mt m_BencodeScanner_step hr (by decide) (pv 0) (pa_cons (pv 3) pa_nil)) pa_nil))))))
    (pss_cons (ps_expr (pe_c c__take_all hr (by decide) rfl (pa_cons (pv 2) (pa_cons (pe_mt0 m_BencodeScanner_end hr (by decide) (pv 0)) pa_nil))))
    (pss_one (ps_ret (pe_fld (pv 2) rfl)))))), ?_⟩)
  obtain ⟨_, _, rfl, A, a, os, rs, s', t, rfl, rfl, ha, na, hA, R, hw, ok, run, h⟩ := h
  obtain ⟨R1, R2, R3⟩ := R.at
  walk_at "rf"
  refine d_builder fun b fl H1 nb_ nfl B s1 => ?_
  walk_at "rf"
  have fb0 : ∀ x ∈ own b fl [], x ∈ A.own ∨ H x = none := fun x hx => by
    have hx : x = b ∨ x = fl := by simpa [own, ownC] using hx
    rcases hx with e | e <;> rw [e]
    · exact .inr nb_
    · exact .inr nfl
  have dj0 : ∀ x ∈ A.own, x ∉ own b fl [] := fun x hx hz => by
    obtain ⟨u, hu⟩ := hA.some x hx
    have hx : x = b ∨ x = fl := by simpa [own, ownC] using hz
    rcases hx with e | e
    · rw [e, nb_] at hu
      cases hu
    · rw [e, nfl] at hu
      cases hu
  rcases ha with ha | ha
  · refine .inl ?_
    walk_at "rf"
    refine ⟨a, rfl, ⟨_, SqL.of (s1 _ _ ha)⟩, ?_⟩
    refine r_eachL (xs := os.map V.int) (fun i σ H' => ∃ (A' : ScA) (cs : List Cf) (y : Option V), A'.a = A.a ∧ ScAt K H' A' (StAt sc0 os i) ∧ BAt K H' b fl ((Bs.mk [] none).run (rs.take i).flatten) cs ∧ (∀ x ∈ A'.own, x ∉ own b fl cs) ∧ (∀ x ∈ A'.own, x ∈ A.own ∨ H x = none) ∧ (∀ x ∈ own b fl cs, x ∈ A.own ∨ H x = none) ∧ Ch A.own H H' ∧ σ = [some (.ref A.a), some (.ref a), some (.ref b), y]) ⟨A, [], _, rfl, hA.get (Ch.same (o := []) s1 Ch.refl) (by simp), B, dj0, fun x hx => .inl hx, fb0, Ch.same s1 Ch.refl, rfl⟩ (fun i σ H' hh => ?_) ?_ ?_
    · obtain ⟨_, _, _, _, _, _, _, _, _, c, _⟩ := hh
      exact SqL.of (c.get na ha)
    · rintro i x σ H2 hx ⟨A', cs, y, ea, hA2, B2, dj, fa, fb, c2, rfl⟩
      obtain ⟨o, ho, rfl, _⟩ := ints_get hx
      obtain ⟨wf, okk, row⟩ := R3 i o ho
      obtain ⟨⟨dA, hA1⟩, _, _, _⟩ := id hA2
      rw [ea] at hA1
      walk_at "rf"
      refine ⟨_, _, rfl, A', _, o, congrArg V.ref ea.symm, rfl, hA2, wf, okk, fun A3 x H3 ea3 fr3 hA3 hE nx nxo c3 => ?_⟩
      have B3 := B2.away (ow_of c3) c3.tk (fun x hx z => dj x z hx)
      have live2 := B2.live
      have nq : x ∉ own b fl cs := fun z => by
        obtain ⟨u, hu⟩ := live2 x z
        rw [nx] at hu
        cases hu
      have ef : (rs.take (i + 1)).flatten = (rs.take i).flatten ++ (scTake ((os.take i).foldl scStep sc0) o).2.1 := by
        rw [List.take_succ, row, List.flatten_append]
        simp
      have okw : ((Bs.mk [] none).run (rs.take i).flatten).okRun (scTake ((os.take i).foldl scStep sc0) o).2.1 := by
        have e : rs = rs.take (i + 1) ++ rs.drop (i + 1) := (List.take_append_drop _ _).symm
        have e2 : rs.flatten = (rs.take i).flatten ++ ((scTake ((os.take i).foldl scStep sc0) o).2.1 ++ (rs.drop (i + 1)).flatten) := by
          have q : rs.flatten = (rs.take (i + 1) ++ rs.drop (i + 1)).flatten := congrArg List.flatten e
          rw [List.flatten_append, ef, List.append_assoc] at q
          exact q
        rw [e2] at ok
        exact (okRun_app _ _ _ (okRun_app _ _ _ ok).2).1
      walk_at "rf"
      refine ⟨_, _, rfl, b, fl, _, cs, x, _, rfl, rfl, B3, hE, okw, nq, fun cs4 H4 B4 fr4 c4 => ?_⟩
      walk_at "rf"
      have c23 : Ch A.own H H3 := c3.ch fa c2
      have d3 : ∀ x ∈ A3.own, x ∉ own b fl cs := fun z hz hz2 => by
        rcases fr3 z hz with q | q
        · exact dj z q hz2
        · obtain ⟨u, hu⟩ := live2 z hz2
          rw [q] at hu
          cases hu
      refine ⟨A3, cs4, _, ea3.trans ea, ?_, ?_, fun z hz hz2 => ?_, fun z hz => ?_, fun z hz => ?_, c4.ch fb c23, rfl⟩
      · rw [StAt, step_at sc0 ho]
        exact hA3.get c4 d3
      · rw [ef, run_app]
        exact B4
      · rcases fr4 z hz2 with q | q
        · exact d3 z hz q
        · obtain ⟨u, hu⟩ := hA3.some z hz
          rw [q] at hu
          cases hu
      · rcases fr3 z hz with q | q
        · exact fa z q
        · exact c2.fresh q
      · rcases fr4 z hz with q | q
        · exact fb z q
        · exact c23.fresh q
    · rintro σ H2 ⟨A', cs, y, ea, hA2, B2, dj, fa, fb, c2, rfl⟩
      rw [List.length_map] at hA2 B2
      rw [← R1, List.take_length, run] at B2
      obtain ⟨⟨dA, hA1⟩, _, _, _⟩ := id hA2
      rw [ea] at hA1
      walk_at "rf"
      refine ⟨_, rfl, A', _, congrArg V.ref ea.symm, hA2, ?_, fun q H3 nq gq s3 => ?_⟩
      · unfold StAt
        rw [List.take_length, R2]
        exact hw
      walk_at "rf"
      refine ⟨_, _, rfl, b, fl, _, cs, q, [], rfl, rfl, B2.same s3, ⟨[], gq, .nil⟩, trivial, fun z => ?_, fun cs4 H4 B4 fr4 c4 => ?_⟩
      · obtain ⟨u, hu⟩ := B2.live q z
        rw [nq] at hu
        cases hu
      obtain ⟨⟨dx, bv, hb, hbv⟩, _, _, _, _⟩ := id B4
      walk_at "rf"
      exact h _ H4 hbv (c4.ch fb (Ch.same s3 c2))
  · refine .inr ?_
    walk_at "rf"
    refine ⟨a, rfl, ⟨_, SqT.of (s1 _ _ ha)⟩, ?_⟩
    refine r_eachT (xs := os.map V.int) (fun i σ H' => ∃ (A' : ScA) (cs : List Cf) (y : Option V), A'.a = A.a ∧ ScAt K H' A' (StAt sc0 os i) ∧ BAt K H' b fl ((Bs.mk [] none).run (rs.take i).flatten) cs ∧ (∀ x ∈ A'.own, x ∉ own b fl cs) ∧ (∀ x ∈ A'.own, x ∈ A.own ∨ H x = none) ∧ (∀ x ∈ own b fl cs, x ∈ A.own ∨ H x = none) ∧ Ch A.own H H' ∧ σ = [some (.ref A.a), some (.ref a), some (.ref b), y]) ⟨A, [], _, rfl, hA.get (Ch.same (o := []) s1 Ch.refl) (by simp), B, dj0, fun x hx => .inl hx, fb0, Ch.same s1 Ch.refl, rfl⟩ (fun i σ H' hh => ?_) ?_ ?_
    · obtain ⟨_, _, _, _, _, _, _, _, _, c, _⟩ := hh
      exact SqT.of (c.get na ha)
    · rintro i x σ H2 hx ⟨A', cs, y, ea, hA2, B2, dj, fa, fb, c2, rfl⟩
      obtain ⟨o, ho, rfl, _⟩ := ints_get hx
      obtain ⟨wf, okk, row⟩ := R3 i o ho
      obtain ⟨⟨dA, hA1⟩, _, _, _⟩ := id hA2
      rw [ea] at hA1
      walk_at "rf"
      refine ⟨_, _, rfl, A', _, o, congrArg V.ref ea.symm, rfl, hA2, wf, okk, fun A3 x H3 ea3 fr3 hA3 hE nx nxo c3 => ?_⟩
      have B3 := B2.away (ow_of c3) c3.tk (fun x hx z => dj x z hx)
      have live2 := B2.live
      have nq : x ∉ own b fl cs := fun z => by
        obtain ⟨u, hu⟩ := live2 x z
        rw [nx] at hu
        cases hu
      have ef : (rs.take (i + 1)).flatten = (rs.take i).flatten ++ (scTake ((os.take i).foldl scStep sc0) o).2.1 := by
        rw [List.take_succ, row, List.flatten_append]
        simp
      have okw : ((Bs.mk [] none).run (rs.take i).flatten).okRun (scTake ((os.take i).foldl scStep sc0) o).2.1 := by
        have e : rs = rs.take (i + 1) ++ rs.drop (i + 1) := (List.take_append_drop _ _).symm
        have e2 : rs.flatten = (rs.take i).flatten ++ ((scTake ((os.take i).foldl scStep sc0) o).2.1 ++ (rs.drop (i + 1)).flatten) := by
          have q : rs.flatten = (rs.take (i + 1) ++ rs.drop (i + 1)).flatten := congrArg List.flatten e
          rw [List.flatten_append, ef, List.append_assoc] at q
          exact q
        rw [e2] at ok
        exact (okRun_app _ _ _ (okRun_app _ _ _ ok).2).1
      walk_at "rf"
      refine ⟨_, _, rfl, b, fl, _, cs, x, _, rfl, rfl, B3, hE, okw, nq, fun cs4 H4 B4 fr4 c4 => ?_⟩
      walk_at "rf"
      have c23 : Ch A.own H H3 := c3.ch fa c2
      have d3 : ∀ x ∈ A3.own, x ∉ own b fl cs := fun z hz hz2 => by
        rcases fr3 z hz with q | q
        · exact dj z q hz2
        · obtain ⟨u, hu⟩ := live2 z hz2
          rw [q] at hu
          cases hu
      refine ⟨A3, cs4, _, ea3.trans ea, ?_, ?_, fun z hz hz2 => ?_, fun z hz => ?_, fun z hz => ?_, c4.ch fb c23, rfl⟩
      · rw [StAt, step_at sc0 ho]
        exact hA3.get c4 d3
      · rw [ef, run_app]
        exact B4
      · rcases fr4 z hz2 with q | q
        · exact d3 z hz q
        · obtain ⟨u, hu⟩ := hA3.some z hz
          rw [q] at hu
          cases hu
      · rcases fr3 z hz with q | q
        · exact fa z q
        · exact c2.fresh q
      · rcases fr4 z hz with q | q
        · exact fb z q
        · exact c23.fresh q
    · rintro σ H2 ⟨A', cs, y, ea, hA2, B2, dj, fa, fb, c2, rfl⟩
      rw [List.length_map] at hA2 B2
      rw [← R1, List.take_length, run] at B2
      obtain ⟨⟨dA, hA1⟩, _, _, _⟩ := id hA2
      rw [ea] at hA1
      walk_at "rf"
      refine ⟨_, rfl, A', _, congrArg V.ref ea.symm, hA2, ?_, fun q H3 nq gq s3 => ?_⟩
      · unfold StAt
        rw [List.take_length, R2]
        exact hw
      walk_at "rf"
      refine ⟨_, _, rfl, b, fl, _, cs, q, [], rfl, rfl, B2.same s3, ⟨[], gq, .nil⟩, trivial, fun z => ?_, fun cs4 H4 B4 fr4 c4 => ?_⟩
      · obtain ⟨u, hu⟩ := B2.live q z
        rw [nq] at hu
        cases hu
      obtain ⟨⟨dx, bv, hb, hbv⟩, _, _, _, _⟩ := id B4
      walk_at "rf"
      exact h _ H4 hbv (c4.ch fb (Ch.same s3 c2))
theorem ok_read_bencode (F : FunD K "read_bencode" "read_bencode" (defArgs s_read_bencode) (defBody s_read_bencode) (defScope s_read_bencode) [] [] (glAd "read_bencode" K) fd) (m : mg "read_bencode" = some (.ref (glAd "read_bencode" K))) (nb : Nm K mg) (k_BencodeScanner : Mak P w K mg base 3 "BencodeScanner" (C_BencodeScanner K) (sp_BencodeScanner___init__ K) []) (c_value_of_text : Cal P w K mg base 9 "value_of_text" (sp_value_of_text K) []) : Cal P w K mg base 10 "read_bencode" (sp_read_bencode K) [] := by
  refine calD F m sc_read_bencode (fun _ _ _ _ _ _ us hl => match us, hl with | [_], _ => rfl) len1 (fun cdv A outer s H vs Q E hr h => ⟨_, (pss_one (ps_ret (pe_c c_value_of_text hr (by decide) rfl (pa_cons (pe_mk0 k_BencodeScanner hr (by decide) rfl) (pa_cons (pv 0) pa_nil))))), ?_⟩)
  obtain ⟨_, rfl, a, os, rs, s', t, rfl, ha, R, hw, ok, run, h⟩ := h
  walk_at "rf"
  refine d_bscan fun A H1 nA hA s1 => ?_
  walk_at "rf"
  refine ⟨_, _, rfl, A, a, os, rs, s', t, rfl, rfl, ha.imp (s1 _ _) (s1 _ _), fun z => ?_, hA, R, hw, ok, run, fun v H' tp c => h v H' tp fun x u hx => ?_⟩
  · have := nA a z
    rcases ha with q | q
    · rw [q] at this
      cases this
    · rw [q] at this
      cases this
  · exact c.get (fun z => by rw [nA x z] at hx; cases hx) (s1 _ _ hx)
theorem ok__law_read (F : FunD K "_law_read" "_law_read" (defArgs s__law_read) (defBody s__law_read) (defScope s__law_read) [] [] (glAd "_law_read" K) fd) (m : mg "_law_read" = some (.ref (glAd "_law_read" K))) (nb : Nm K mg) (c_read_bencode : Cal P w K mg base 10 "read_bencode" (sp_read_bencode K) []) : Cal P w K mg base 11 "_law_read" (sp__law_read K) [] := by
  refine calD F m sc__law_read (fun _ _ _ _ _ _ us hl => match us, hl with | [_], _ => rfl) len1 (fun cdv A outer s H vs Q E hr h => ⟨_, (pss_one (ps_tryN0 (fun _ _ h => h) (pss_one (ps_ret (pe_c c_read_bencode hr (by decide) rfl (pa_cons (pv 0) pa_nil)))))), ?_⟩)
  obtain ⟨_, rfl, h⟩ := h
  walk_at "rf"
  exact ⟨_, rfl, h⟩
end

/-! ### the law's draws: values of all kinds -/










def sp__law_big (K : Frg) : Sp := sp__law_next K
def sp__law_normal : Sp := sp2 fun a b H Q _ => ∃ m e : Int, a = .int m ∧ b = .int e ∧ m.natAbs < 10 ^ 100 ∧ ∀ (p : Addr) (m' e' : Int) (H' : Hp), nrm m e = (m', e') → H p = none → H' p = some (.tup [.int m', .int e']) → Same H H' → Q (.ref p) H'
def sp__law_many (K : Frg) : Sp := sp2 fun a b H Q _ => ∃ S l mo, a = .ref S.a ∧ b = .int mo ∧ 21 ≤ mo ∧ LB K S l H ∧ ∀ (r : Int) (H' : Hp), 0 ≤ r → r < mo → LB K S l H' → Keep S H H' → Q (.int r) H'
def sp__law_points (K : Frg) : Sp := sp1 fun a H Q _ => ∃ S l, a = .ref S.a ∧ LB K S l H ∧ ∀ (p : Addr) (ps : List Int) (H' : Hp), H' p = some (.tup (ps.map V.int)) → Kp ps → LB K S l H' → Keep S H H' → Q (.ref p) H'
def sp__law_octets (K : Frg) : Sp := sp1 fun a H Q _ => ∃ S l, a = .ref S.a ∧ LB K S l H ∧ ∀ (p : Addr) (os : List Int) (H' : Hp), H' p = some (.tup (os.map V.int)) → os.length ≤ 300 → LB K S l H' → Keep S H H' → Q (.ref p) H'
theorem keep_away {S : SC} {H H' : Hp} {D : Addr} {o : HO} (k : Keep S H H') (n : H D = none) : Keep S H (upd H' D o) := fun b u hb h => by
  rw [upd_ne (fun e => by rw [e, n] at h; cases h)]
  exact k b u hb h
theorem LB.away {K : Frg} {S : SC} {H H1 : Hp} {l l1 : Int} (L1 : LB K S l1 H1) {D : Addr} (hD : H1 D = none) (L : LB K S l H) (o : HO) : LB K S l (upd H D o) := by
  refine ⟨L1.ls.away hD L.ls o, ?_⟩
  obtain ⟨_, k1, f1, e1⟩ := L1
  obtain ⟨_, k, f, e⟩ := L
  exact ⟨k, f, (upd_ne (fun z => by rw [z, hD] at e1; cases e1)).trans e⟩
def menu22 : List Int := [97, 98, 34, 92, 47, 10, 9, 1, 31, 127, 128, 233, 2047, 2048, 8364, 55295, 57344, 65535, 65536, 128512, 1114111, 48]
theorem menu22_in : ∀ v ∈ menu22, Point v := by
  intro v hv
  have h : ∀ v ∈ menu22, 0 ≤ v ∧ v ≤ 1114111 ∧ (v < 55296 ∨ 57344 ≤ v) := by decide
  exact h v hv
theorem pt_low {v : Int} (h0 : 0 ≤ v) (h1 : v < 55296) : Point v := ⟨h0, by omega, .inl h1⟩
/-- leaves: what bencode has, numbers far off, and what it lacks -/
inductive Lg : Str → List PyData → Prop
  | of {k : Str} {r : List PyData} (h : Lb k r) : Lg k r
  | far (m e : Int) (h : ¬ (0 ≤ e ∧ e ≤ 800)) : Lg "number" [.int m, .int e]
  | odd (k : Str) (r : List PyData) (h : k = "null" ∨ k = "truth" ∨ k = "text") : Lg k r
def KsOk (ks : List Str) : Prop := 0 < ks.length ∧ ks.length ≤ 100 ∧ ∀ k ∈ ks, k = "number" ∨ k = "far" ∨ k = "bytes" ∨ k = "text" ∨ k = "truth" ∨ k = "null"
mutual
/-- values with such leaves -/
def Vl.gf : Nat → Vl → Prop
  | _, .lf k r => Lg k r
  | 0, .ls _ => False
  | 0, .mp _ => False
  | n + 1, .ls xs => xs.length ≤ 49 ∧ gfL n xs
  | n + 1, .mp es => es.length ≤ 49 ∧ (es.map (·.1)).Pairwise (fun x y => HT.lexLt x y = true) ∧ (∀ e ∈ es, Kp e.1) ∧ gfM n es
def gfL : Nat → List Vl → Prop
  | _, [] => True
  | n, x :: xs => x.gf n ∧ gfL n xs
def gfM : Nat → List (List Int × Vl) → Prop
  | _, [] => True
  | n, (_, v) :: es => v.gf n ∧ gfM n es
end
theorem gfL_mem : ∀ {n : Nat} {xs : List Vl}, gfL n xs → ∀ x ∈ xs, x.gf n
  | _, [], _, x, h => absurd h (by simp)
  | _, y :: ys, h, x, hx => by
    rcases List.mem_cons.mp hx with e | e
    · rw [e]
      exact h.1
    · exact gfL_mem h.2 x e
theorem gfL_of : ∀ {n : Nat} {xs : List Vl}, (∀ x ∈ xs, x.gf n) → gfL n xs
  | _, [], _ => trivial
  | _, y :: ys, h => ⟨h _ (List.mem_cons_self ..), gfL_of fun e he => h e (List.mem_cons_of_mem _ he)⟩
theorem gfM_of : ∀ {n : Nat} {es : List (List Int × Vl)}, (∀ e ∈ es, e.2.gf n) → gfM n es
  | _, [], _ => trivial
  | _, (k, v) :: ys, h => ⟨h _ (List.mem_cons_self ..), gfM_of fun e he => h e (List.mem_cons_of_mem _ he)⟩
theorem gfM_mem : ∀ {n : Nat} {es : List (List Int × Vl)}, gfM n es → ∀ e ∈ es, e.2.gf n
  | _, [], _, x, h => absurd h (by simp)
  | _, (k, v) :: ys, h, x, hx => by
    rcases List.mem_cons.mp hx with e | e
    · rw [e]
      exact h.1
    · exact gfM_mem h.2 x e
/-- what the budget l, gone down to l', allows for a value of size n -/
def Bud (l l' : Int) (n : Nat) : Prop := (n : Int) + 1 ≤ 2 * (l - l') ∧ l - l' ≤ 1 + 49 * (max l 0 - max l' 0)
/-- the same for k values, of size n together -/
def BudL (l l' : Int) (n k : Nat) : Prop := (n : Int) + k ≤ 2 * (l - l') ∧ l - l' ≤ k + 49 * (max l 0 - max l' 0)
theorem budL_nil (l : Int) : BudL l l 0 0 := by unfold BudL; omega
theorem budL_cons {l l1 l2 : Int} {n m k : Nat} (a : BudL l l1 n k) (b : Bud l1 l2 m) : BudL l l2 (n + m) (k + 1) := by
  unfold BudL Bud at *
  omega
theorem bud_node {l l' : Int} {n k : Nat} (hl : 0 < l - 1) (hk : k ≤ 49) (a : BudL (l - 1) l' n k) : Bud l l' (1 + n) := by
  unfold BudL at a
  unfold Bud
  omega
theorem bud_map {l l' : Int} {n k : Nat} (hl : 0 < l - 1) (hk : k ≤ 49) (a : BudL (l - 1) l' n k) : Bud l l' (1 + (n + k)) := by
  unfold BudL at a
  unfold Bud
  omega
theorem bud_leaf {l : Int} {n : Nat} (h : n ≤ 1) : Bud l (l - 1) n := by
  unfold Bud
  omega
mutual
/-- how large it is -/
def vsz : Vl → Nat
  | .ls xs => 1 + vszL xs
  | .mp es => 1 + vszM es
  | .lf _ _ => 1
def vszL : List Vl → Nat
  | [] => 0
  | x :: xs => vsz x + vszL xs
def vszM : List (List Int × Vl) → Nat
  | [] => 0
  | (_, v) :: es => 1 + vsz v + vszM es
end
theorem gfL_app {n : Nat} {xs ys : List Vl} (h1 : gfL n xs) (h2 : gfL n ys) : gfL n (xs ++ ys) := gfL_of fun x hx => by
  rcases List.mem_append.mp hx with q | q
  · exact gfL_mem h1 x q
  · exact gfL_mem h2 x q
theorem gf_leaf {k : Str} {r : List PyData} (h : Lg k r) (n : Nat) : (Vl.lf k r).gf n := by cases n <;> exact h
theorem vszL_app : ∀ (xs ys : List Vl), vszL (xs ++ ys) = vszL xs + vszL ys
  | [], ys => (Nat.zero_add _).symm
  | x :: xs, ys => by
    show vsz x + vszL (xs ++ ys) = vsz x + vszL xs + vszL ys
    rw [vszL_app xs ys, Nat.add_assoc]
theorem vszM_sum : ∀ es : List (List Int × Vl), vszM es = (es.map fun e => vsz e.2).sum + es.length
  | [] => rfl
  | (k, v) :: es => by
    show 1 + vsz v + vszM es = (vsz v + (es.map fun e => vsz e.2).sum) + (es.length + 1)
    rw [vszM_sum es]
    omega
/-- an entry and its value -/
def EvF (H : Hp) (n : Nat) (e : Ent × Vl) : Prop := EntAt H e.1 ∧ Tp H (.ref e.1.u) e.2.dat ∧ e.2.gf n ∧ Kp e.1.k
theorem EvF.tk {H H' : Hp} {n : Nat} {e : Ent × Vl} (k : Tk H H') (h : EvF H n e) : EvF H' n e := ⟨h.1.tk k, Tp.tk k _ _ h.2.1, h.2.2⟩
theorem tpa_entF {H : Hp} {n : Nat} {zs : List (Ent × Vl)} (h : ∀ e ∈ zs, EvF H n e) : TpAll H ((zs.map fun e => e.1).map fun e => V.ref e.t) (datM (zs.map fun e => (e.1.k, e.2))) := by
  rw [datM_map, List.map_map, List.map_map]
  exact tpa_map fun e he => .tup (h e he).1.1 (.cons (tp_kd (h e he).1.2) (.cons (h e he).2.1 .nil))
def sp__law_number (K : Frg) : Sp := sp2 fun a b H Q _ => ∃ S l far, a = .ref S.a ∧ b = .bl far ∧ LB K S l H ∧ ∀ (v : V) (m e : Int) (H' : Hp), (far = false → Nf m e ∧ m.natAbs < 10 ^ 60) → (far = true → ¬ (0 ≤ e ∧ e ≤ 800)) → Tp H' v (.tuple [.str "number", .int m, .int e]) → LB K S l H' → Keep S H H' → Q v H'
def sp__law_leaf (K : Frg) : Sp := sp2 fun a b H Q _ => ∃ S l kl ks, a = .ref S.a ∧ b = .ref kl ∧ kl ≠ S.a ∧ H kl = some (.lst (ks.map V.str)) ∧ KsOk ks ∧ LB K S l H ∧ ∀ (v : V) (k : Str) (r : List PyData) (H' : Hp), Lg k r → Tp H' v (.tuple (.str k :: r)) → LB K S l H' → Keep S H H' → Q v H'
def sp__law_value (K : Frg) (n : Nat) : Sp := sp4 fun a d k m H Q _ => ∃ (S : SC) (l : Int) (deep : Nat) (kl : Addr) (ks : List Str) (mp : Bool), a = .ref S.a ∧ d = .int (deep : Nat) ∧ k = .ref kl ∧ m = .bl mp ∧ kl ≠ S.a ∧ H kl = some (.lst (ks.map V.str)) ∧ KsOk ks ∧ deep < n ∧ LB K S l H ∧
  ∀ (v : V) (t : Vl) (l' : Int) (H' : Hp), t.gf deep → Bud l l' (vsz t) → Tp H' v t.dat → LB K S l' H' → Keep S H H' → Q v H'
theorem no__law_value {K : Frg} {vs : List V} {H : Hp} {Q : VK} {E : XK} (h : sp__law_value K 0 vs H Q E) : False := by
  obtain ⟨_, _, _, _, rfl, S, l, deep, kl, ks, mp, _, _, _, _, _, _, _, h, _⟩ := h
  exact absurd h (Nat.not_lt_zero _)
def sp__law_towered (K : Frg) : Sp := sp3 fun a b c H Q _ => ∃ S l t mp, a = .ref S.a ∧ c = .bl mp ∧ LB K S l H ∧ Tp H b (Vl.dat t) ∧ t.gf 4 ∧ ∀ (v : V) (t' : Vl) (n : Nat) (H' : Hp), n ≤ 24 → t'.gf n → vsz t' ≤ vsz t + 40 → Tp H' v t'.dat → LB K S l H' → Keep S H H' → Q v H'
def sp__law_mixed (K : Frg) : Sp := sp2 fun a b H Q _ => ∃ (S : SC) (l : Int) (p : Addr) (xs : List V), a = .ref S.a ∧ b = .ref p ∧ H p = some (.tup xs) ∧ xs.length ≤ 1000 ∧ LB K S l H ∧ ∀ (q : Addr) (ys : List V) (H' : Hp), ys.Perm xs → H q = none → q ≠ S.a → H' q = some (.lst ys) → LB K S l H' → Keep S H H' → Q (.ref q) H'
theorem new_b {K : Frg} {S : SC} {l : Int} {H : Hp} {p : Addr} {o : HO} (L : LB K S l H) (hp : H p = none) : ∃ H', upd H p o = H' ∧ LB K S l H' ∧ Same H H' ∧ H' p = some o := ⟨_, rfl, L.new hp o, same_upd hp o, upd_same⟩
def edges13 : List Int := [9, 10, 99, 100, 255, 256, 999, 2 ^ 31, 2 ^ 32, 2 ^ 63, 2 ^ 64, 10 ^ 20, 10 ^ 30]
theorem edges13_in : ∀ v ∈ edges13, 0 ≤ v ∧ v ≤ 10 ^ 30 := by decide +kernel
/-- what the branches leave -/
def MidN (K : Frg) (S : SC) (l : Int) (H : Hp) (far : Bool) (pick sg : Int) (σ : St) (H' : Hp) : Prop := LB K S l H' ∧ Keep S H H' ∧ ∃ (m e : Int) (y6 y7 y8 : Option V), Nf m e ∧ m.natAbs < 10 ^ 60 ∧ σ = [some (.ref S.a), some (.bl far), some (.int pick), some (.int sg), some (.int m), some (.int e), y6, y7, y8]
theorem nf_of {m e m' e' : Int} (hm : m.natAbs < 10 ^ 60) (he : 0 ≤ e) (he2 : e ≤ 100) (h : nrm m e = (m', e')) : Nf m' e' ∧ m'.natAbs < 10 ^ 60 := by
  by_cases c : m = 0
  · rw [c, nrm_zero] at h
    injection h with h1 h2
    exact ⟨.inl ⟨h1.symm, h2.symm⟩, by rw [← h1]; decide⟩
  · obtain ⟨a, k, e1, e2, e3⟩ := nrm_of e c
    rw [e1] at h
    injection h with h1 h2
    have hle : a.natAbs ≤ m.natAbs := by
      rw [e3, Int.natAbs_mul, natAbs10]
      exact Nat.le_mul_of_pos_right _ (Nat.pow_pos (by decide))
    have hk : k < 60 := by
      rcases Nat.lt_or_ge k 60 with q | q
      · exact q
      · exfalso
        have ha : 1 ≤ a.natAbs := by omega
        have h3 : 10 ^ 60 ≤ m.natAbs := by
          rw [e3, Int.natAbs_mul, natAbs10]
          exact Nat.le_trans (pow10_le q) (Nat.le_trans (Nat.le_of_eq (Nat.one_mul _).symm) (Nat.mul_le_mul_right _ ha))
        omega
    exact ⟨.inr ⟨by rw [← h1]; exact e2, by omega, by omega⟩, by rw [← h1]; omega⟩
theorem r_par {σ : St} {H : Hp} {n b c : St → Hp → Prop} {r : VK} {i j : Nat} {ta : TA} (h : ta σ H fun vs H1 => ∃ v w, vs = [v, w] ∧ n ((σ.set i (some v)).set j (some w)) H1) : tPar i j ta ⟨n, r, b, c⟩ σ H := h
theorem r_pair {x y : V} {R : V → V → Prop} (h : R x y) : ∃ v w, [x, y] = [v, w] ∧ R v w := ⟨x, y, rfl, h⟩
local macro_rules | `(tactic| walk_at "rd1") => `(tactic| first | (with_reducible refine r_par ?_) | (with_reducible refine r_pair ?_))
section
variable {P : Program} {w : World} {K : PySem.W.Frag} {mg : Str → Option Value} {base : Heap} {f : Addr} {fd : FuncData}
theorem ok__law_big (F : FunD K "_law_big" "_law_big" (defArgs s__law_big) (defBody s__law_big) (defScope s__law_big) [] [] (glAd "_law_big" K) fd) (m : mg "_law_big" = some (.ref (glAd "_law_big" K))) (nb : Nm K mg) (c__law_cell : Cal P w K mg base 1 "_law_cell" (sp__law_cell K) []) (c__law_next : Cal P w K mg base 1 "_law_next" (sp__law_next K) []) : Cal P w K mg base 2 "_law_big" (sp__law_big K) [] := by
  refine calD F m sc__law_big (fun _ _ _ _ _ _ us hl => match us, hl with | [_, _], _ => rfl) len2 (fun cdv A outer s H vs Q E hr h => ⟨_, (pss_cons (ps_set (i := 2) sc__law_big.nd rfl (Or.inl rfl) (pe_callB call_abs (by rfl) nb.abs (by decide +kernel) (pa_cons (pe_c c__law_cell hr (by decide) rfl (pa_cons (pe_ix ix_list (pv 0) pe_int (fun _ _ => rfl)) (pa_cons (pe_op op_add pe_int (pe_c c__law_next hr (by decide) rfl (pa_cons (pv 0) (pa_cons pe_int pa_nil)))) pa_nil))) pa_nil)))
    (pss_one (ps_ret (pe_op op_mod (pe_callTy call_int1 (by rfl) nb.int (by decide +kernel) (pa_cons (pe_op op_add (pe_op op_mul (pv 2) pe_int) (pe_c c__law_next hr (by decide) rfl (pa_cons (pv 0) (pa_cons pe_int pa_nil)))) pa_nil)) (pv 1))))), ?_⟩)
  obtain ⟨_, _, rfl, S, l, mm, rfl, rfl, h0, L, h⟩ := h
  obtain ⟨k, f5, e⟩ := L.at_
  walk_at "rd"
  refine r_ixL (SqL.of e) rfl ?_
  walk_at "rd"
  refine b_next L (by decide) fun r1 H1 a1 b1 L1 k1 => ?_
  walk_at "rd"
  refine ⟨_, _, rfl, S.sl, S.ns, _, rfl, rfl, L1.ls.scr, by omega, fun z => ?_⟩
  walk_at "rd"
  refine b_next L1 (by decide) fun r2 H2 a2 b2 L2 k2 => ?_
  walk_at "rd"
  refine r_I h0 ?_
  exact h _ _ (Int.emod_nonneg _ (by omega)) (Int.emod_lt_of_pos _ h0) L2 (k1.trans k2)
theorem ok__law_normal (F : FunD K "_law_normal" "_law_normal" (defArgs s__law_normal) (defBody s__law_normal) (defScope s__law_normal) [] [] (glAd "_law_normal" K) fd) (m : mg "_law_normal" = some (.ref (glAd "_law_normal" K))) (nb : Nm K mg) : Cal P w K mg base 1 "_law_normal" sp__law_normal [] := by
  refine calD F m sc__law_normal (fun _ _ _ _ _ _ us hl => match us, hl with | [_, _], _ => rfl) len2 (fun cdv A outer s H vs Q E hr h => ⟨_, (pss_cons (ps_if (pt_cmpR op_eq (pv 0) pe_int (nomark _))
    (pss_one (ps_ret (pe_tupE (pa_cons pe_int (pa_cons pe_int pa_nil)))))
    pss_nil)
    (pss_cons (ps_for PassesOwn.never rfl (pi_range1 rfl nb.range (pa_cons pe_int pa_nil)) (pg_name (i := 2) sc__law_normal.nd rfl (Or.inl rfl))
    (pss_cons (ps_if (pt_cmpR op_ne (pe_op op_mod (pe_callTy call_int1 (by rfl) nb.int (by decide +kernel) (pa_cons (pv 0) pa_nil)) pe_int) pe_int (nomark _))
    (pss_one (ps_ret (pe_tupE (pa_cons (pv 0) (pa_cons (pv 1) pa_nil)))))
    pss_nil)
    (pss_cons (ps_set (i := 0) sc__law_normal.nd rfl (Or.inl rfl) (pe_op op_fdiv (pv 0) pe_int))
    (pss_one (ps_set (i := 1) sc__law_normal.nd rfl (Or.inl rfl) (pe_op op_add (pv 1) pe_int))))))
    (pss_one (ps_ret (pe_tupE (pa_cons (pv 0) (pa_cons (pv 1) pa_nil))))))), ?_⟩)
  obtain ⟨_, _, rfl, m, e, rfl, rfl, hm, h⟩ := h
  walk_at "rf"
  refine r_ite (fun c => ?_) (fun c => ?_)
  · walk_at "rf"
    exact ⟨by show 2 ≤ sizeLine; decide, fun p H' np g s => h p _ _ H' (by rw [c, nrm_zero]) np g s⟩
  walk_at "rf"
  refine r_turns (by decide) (by decide) (fun i σ H' => H = H' ∧ ∃ (m' e' : Int) (y : Option V), nrm m' e' = nrm m e ∧ m' ≠ 0 ∧ m'.natAbs * 10 ^ i ≤ m.natAbs ∧ σ = [some (.int m'), some (.int e'), y]) ⟨rfl, m, e, none, rfl, c, by simp, rfl⟩ ?_ ?_
  · rintro i σ _ hi ⟨rfl, m', e', y, hm1, hm2, hm3, rfl⟩
    walk_at "rf"
    refine r_iten (fun c => ?_) (fun c => ?_)
    · walk_at "rf"
      exact ⟨by show 2 ≤ sizeLine; decide, fun p H' np g s => h p _ _ H' (by rw [← hm1, nrm_stop e' c]) np g s⟩
    · walk_at "rf"
      refine ⟨rfl, _, _, _, by rw [← nrm_step e' hm2 c]; exact hm1, by omega, ?_, rfl⟩
      have e1 : m'.natAbs = (m' / 10).natAbs * 10 := by omega
      rw [Nat.pow_succ, Nat.mul_comm (10 ^ i), ← Nat.mul_assoc, ← e1]
      exact hm3
  · rintro σ _ ⟨rfl, m', e', y, hm1, hm2, hm3, rfl⟩
    exfalso
    have h1 : 1 ≤ m'.natAbs := by omega
    have h2 : 10 ^ 3001 ≤ m.natAbs := Nat.le_trans (Nat.le_trans (Nat.le_of_eq (Nat.one_mul _).symm) (Nat.mul_le_mul_right (10 ^ 3001) h1)) hm3
    have h3 : (10 : Nat) ^ 100 ≤ 10 ^ 3001 := Nat.pow_le_pow_right (by decide) (by decide)
    omega
theorem ok__law_many (F : FunD K "_law_many" "_law_many" (defArgs s__law_many) (defBody s__law_many) (defScope s__law_many) [] [] (glAd "_law_many" K) fd) (m : mg "_law_many" = some (.ref (glAd "_law_many" K))) (nb : Nm K mg) (c__law_next : Cal P w K mg base 1 "_law_next" (sp__law_next K) []) : Cal P w K mg base 2 "_law_many" (sp__law_many K) [] := by
  refine calD F m sc__law_many (fun _ _ _ _ _ _ us hl => match us, hl with | [_, _], _ => rfl) len2 (fun cdv A outer s H vs Q E hr h => ⟨_, (pss_cons (ps_if (PW.pt (pw_and (pt_cmpR op_gt (pe_ix ix_list (pv 0) pe_int (fun _ _ => rfl)) pe_int (nomark _)) (pw_and1 (pt_cmpR op_eq (pe_c c__law_next hr (by decide) rfl (pa_cons (pv 0) (pa_cons pe_int pa_nil))) pe_int (nomark _)))))
    (pss_cons (ps_asg (pe_op op_sub (pe_ix ix_list (pv 0) pe_int (fun _ _ => rfl)) pe_int) (pg_sub (pv 0) pe_int set_list))
    (pss_one (ps_ret (pe_op op_add pe_int (pe_c c__law_next hr (by decide) rfl (pa_cons (pv 0) (pa_cons (pe_op op_sub (pv 1) pe_int) pa_nil)))))))
    pss_nil)
    (pss_one (ps_ret (pe_c c__law_next hr (by decide) rfl (pa_cons (pv 0) (pa_cons pe_int pa_nil)))))), ?_⟩)
  obtain ⟨_, _, rfl, S, l, mo, rfl, rfl, hmo, L, h⟩ := h
  obtain ⟨kk, f5, e⟩ := L.at_
  walk_at "rf"
  refine r_ixL (SqL.of e) rfl ?_
  walk_at "rf"
  refine r_ite (fun c => ?_) (fun c => ?_)
  · walk_at "rf"
    refine b_next L (by decide) fun r3 H3 a3 b3 L3 k3 => ?_
    walk_at "rf"
    refine r_ite (fun c2 => ?_) (fun c2 => ?_)
    · obtain ⟨kk, f5, e⟩ := L3.at_
      walk_at "rf"
      refine r_ixL (SqL.of e) rfl ?_
      walk_at "rf"
      refine r_setL e rfl ?_
      walk_at "rf"
      have L4 := L3.put kk l (f5 - 1)
      have k4 := k3.trans (Keep.put (H := H3) (.lst [.ref S.nl, .int kk, .int l, .ref S.sl, .int (f5 - 1)]))
      refine b_next L4 (by omega) fun r5 H5 a5 b5 L5 k5 => ?_
      walk_at "rf"
      exact h _ _ (by omega) (by omega) L5 (k4.trans k5)
    · walk_at "rf"
      refine b_next L3 (by decide) fun r5 H5 a5 b5 L5 k5 => ?_
      exact h _ _ a5 (by omega) L5 (k3.trans k5)
  · walk_at "rf"
    refine b_next L (by decide) fun r5 H5 a5 b5 L5 k5 => ?_
    exact h _ _ a5 (by omega) L5 k5
theorem ok__law_points (F : FunD K "_law_points" "_law_points" (defArgs s__law_points) (defBody s__law_points) (defScope s__law_points) [] [] (glAd "_law_points" K) fd) (m : mg "_law_points" = some (.ref (glAd "_law_points" K))) (nb : Nm K mg) (c__law_next : Cal P w K mg base 1 "_law_next" (sp__law_next K) []) (c__law_many : Cal P w K mg base 2 "_law_many" (sp__law_many K) []) : Cal P w K mg base 3 "_law_points" (sp__law_points K) [] := by
  refine calD F m sc__law_points (fun _ _ _ _ _ _ us hl => match us, hl with | [_], _ => rfl) len1 (fun cdv A outer s H vs Q E hr h => ⟨_, (pss_cons (ps_set (i := 1) sc__law_points.nd rfl (Or.inl rfl) (pe_lstE (pa_cons pe_int (pa_cons pe_int (pa_cons pe_int (pa_cons pe_int (pa_cons pe_int (pa_cons pe_int (pa_cons pe_int (pa_cons pe_int (pa_cons pe_int (pa_cons pe_int (pa_cons pe_int (pa_cons pe_int (pa_cons pe_int (pa_cons pe_int (pa_cons pe_int (pa_cons pe_int (pa_cons pe_int (pa_cons pe_int (pa_cons pe_int (pa_cons pe_int (pa_cons pe_int (pa_cons pe_int pa_nil))))))))))))))))))))))))
    (pss_cons (ps_set (i := 2) sc__law_points.nd rfl (Or.inl rfl) (pe_lstE pa_nil))
    (pss_cons (ps_for PassesOwn.never rfl (pi_range1 rfl nb.range (pa_cons (pe_c c__law_many hr (by decide) rfl (pa_cons (pv 0) (pa_cons pe_int pa_nil))) pa_nil)) (pg_name (i := 3) sc__law_points.nd rfl (Or.inl rfl))
    (pss_cons (ps_set (i := 4) sc__law_points.nd rfl (Or.inl rfl) (pe_c c__law_next hr (by decide) rfl (pa_cons (pv 0) (pa_cons pe_int pa_nil))))
    (pss_cons (ps_set (i := 5) sc__law_points.nd rfl (Or.inl rfl) (pe_op op_add pe_int (pe_c c__law_next hr (by decide) rfl (pa_cons (pv 0) (pa_cons pe_int pa_nil)))))
    (pss_cut (ps_if (pt_cmpR op_eq (pv 4) pe_int (nomark _))
    (pss_one (ps_set (i := 5) sc__law_points.nd rfl (Or.inl rfl) (pe_ix ix_list (pv 1) (pe_c c__law_next hr (by decide) rfl (pa_cons (pv 0) (pa_cons pe_int pa_nil))) (fun _ _ => rfl))))
    (pss_one (ps_if (pt_cmpR op_eq (pv 4) pe_int (nomark _))
    (pss_one (ps_set (i := 5) sc__law_points.nd rfl (Or.inl rfl) (pe_c c__law_next hr (by decide) rfl (pa_cons (pv 0) (pa_cons pe_int pa_nil)))))
    (pss_one (ps_if (pt_cmpR op_eq (pv 4) pe_int (nomark _))
    (pss_cons (ps_set (i := 5) sc__law_points.nd rfl (Or.inl rfl) (pe_op op_add (pe_op op_add (pe_op op_mul pe_int (pe_c c__law_next hr (by decide) rfl (pa_cons (pv 0) (pa_cons pe_int pa_nil)))) (pe_c c__law_next hr (by decide) rfl (pa_cons (pv 0) (pa_cons pe_int pa_nil)))) (pe_op op_mul pe_int (pe_c c__law_next hr (by decide) rfl (pa_cons (pv 0) (pa_cons pe_int pa_nil))))))
    (pss_one (ps_set (i := 5) sc__law_points.nd rfl (Or.inl rfl) (pe_op op_add (pv 5) (pe_op op_mul pe_int (pe_callTy call_int1 (by rfl) nb.int (by decide +kernel) (pa_cons (pe_cmpR op_gt (pv 5) pe_int (nomark _)) pa_nil)))))))
    pss_nil)))))
    (pss_one (ps_expr (pe_bm PySem.F.plainAttrs_list PySem.F.slot_list_append PySem.F.type_list_append mt_append (pv 2) (pa_cons (pv 5) pa_nil))))))))
    (pss_one (ps_ret (pe_callTy call_tuple_ofE (by rfl) nb.tuple (by decide +kernel) (pa_cons (pv 2) pa_nil))))))), ?_⟩)
  obtain ⟨_, rfl, S, l, rfl, L, h⟩ := h
  walk_at "rf"
  refine ⟨by show 22 ≤ sizeLine; decide, fun pm H1 nm g1 s1 => ?_⟩
  have L1 := L.same s1
  have ne1 := L.ne_free nm
  walk_at "rf"
  refine ⟨by show 0 ≤ sizeLine; decide, fun q H2 nq g2 s2 => ?_⟩
  have L2 := L1.same s2
  have ne2 := L1.ne_free nq
  have pq : pm ≠ q := Same.ne nq g1
  have nq0 : H q = none := s1.free nq
  walk_at "rf"
  refine ⟨_, _, rfl, S, l, 140, rfl, rfl, by decide, L2, fun many H3 a3 b3 L3 k3 => ?_⟩
  have g13 := k3 _ _ ne1 (s2 _ _ g1)
  have g23 := k3 _ _ ne2 g2
  have kk3 : Keep S H H3 := (Keep.of (s1.trans s2)).trans k3
  walk_at "rf"
  refine r_turns (by omega) (by omega) (fun i σ H' => LB K S l H' ∧ Keep S H H' ∧ i ≤ 139 ∧ ∃ (ps : List Int) (y3 y4 y5 : Option V), ps.length = i ∧ (∀ c ∈ ps, Point c) ∧ H' pm = some (.lst (menu22.map V.int)) ∧ H' q = some (.lst (ps.map V.int)) ∧ σ = [some (.ref S.a), some (.ref pm), some (.ref q), y3, y4, y5]) ⟨L3, kk3, Nat.zero_le _, [], _, _, _, rfl, (fun c h => by cases h), g13, g23, rfl⟩ ?_ ?_
  · rintro i σ H4 hi ⟨L4, k4, hi2, ps, y3, y4, y5, hl, hp, g4, q4, rfl⟩
    have put : ∀ (H5 : Hp) (c : Int) (z4 z5 : Option V), LB K S l H5 → Keep S H4 H5 → Point c → ∀ H6, H6 q = some (.lst (ps.map V.int ++ [.int c])) → Eb q H5 H6 → LB K S l H6 ∧ Keep S H H6 ∧ i + 1 ≤ 139 ∧ ∃ (ps : List Int) (y3 y4 y5 : Option V), ps.length = i + 1 ∧ (∀ c ∈ ps, Point c) ∧ H6 pm = some (.lst (menu22.map V.int)) ∧ H6 q = some (.lst (ps.map V.int)) ∧ [some (V.ref S.a), some (.ref pm), some (.ref q), some (.int (i : Nat)), z4, z5] = [some (.ref S.a), some (.ref pm), some (.ref q), y3, y4, y5] := fun H5 c z4 z5 L5 k5 hc H6 g6 f6 => by
      have e6 : H6 = upd H5 q (.lst (ps.map V.int ++ [.int c])) := by
        funext b
        by_cases hb : b = q
        · rw [hb, g6, upd_same]
        · rw [f6.1 b hb, upd_ne hb]
      subst e6
      refine ⟨L.away nq0 L5 _, keep_away (k4.trans k5) nq0, by omega, ps ++ [c], _, z4, z5, by rw [List.length_append, hl]; rfl, fun d hd => ?_, f6.get pq (k5 _ _ ne1 g4), by rw [g6, map_snoc], rfl⟩
      rcases List.mem_append.mp hd with z | z
      · exact hp d z
      · rw [List.mem_singleton.mp z]; exact hc
    walk_at "rf"
    refine b_next L4 (by decide) fun pick H5 a5 b5 L5 k5 => ?_
    walk_at "rf"
    refine b_next L5 (by decide) fun r6 H6 a6 b6 L6 k6 => ?_
    have k6 := k5.trans k6
    have sm : (ps.map V.int).length < sizeLine := small1000 (by rw [List.length_map]; omega)
    walk_at "rf"
    refine r_cut (fun σ H' => LB K S l H' ∧ Keep S H4 H' ∧ ∃ c, Point c ∧ ∃ y4, σ = [some (.ref S.a), some (.ref pm), some (.ref q), some (.int (i : Nat)), y4, some (.int c)]) ?_ ?_
    · walk_at "rf"
      refine r_ite (fun c => ?_) (fun c => ?_)
      · walk_at "rf"
        refine b_next L6 (by decide) fun r7 H7 a7 b7 L7 k7 => ?_
        obtain ⟨v, hv, ev⟩ := atI_ints (ns := menu22) (k := r7) a7 b7
        have g7 := k7 _ _ ne1 (k6 _ _ ne1 g4)
        walk_at "rf"
        refine r_ixL (SqL.of g7) ev ?_
        walk_at "rf"
        exact ⟨L7, k6.trans k7, v, menu22_in v hv, _, rfl⟩
      walk_at "rf"
      refine r_ite (fun c => ?_) (fun c => ?_)
      · walk_at "rf"
        refine b_next L6 (by decide) fun r7 H7 a7 b7 L7 k7 => ?_
        walk_at "rf"
        exact ⟨L7, k6.trans k7, r7, pt_low a7 (by omega), _, rfl⟩
      walk_at "rf"
      refine r_ite (fun c => ?_) (fun c => ?_)
      · walk_at "rf"
        refine b_next L6 (by decide) fun r7 H7 a7 b7 L7 k7 => ?_
        walk_at "rf"
        refine b_next L7 (by decide) fun r8 H8 a8 b8 L8 k8 => ?_
        walk_at "rf"
        refine b_next L8 (by decide) fun r9 H9 a9 b9 L9 k9 => ?_
        walk_at "rf"
        refine .inr ⟨_, rfl, ?_⟩
        walk_at "rf"
        refine ⟨L9, ((k6.trans k7).trans k8).trans k9, _, ?_, _, rfl⟩
        unfold Point
        split
        · rename_i z
          have z := of_decide_eq_true z
          omega
        · rename_i z
          have z : ¬ _ := fun q => z (decide_eq_true q)
          omega
      · walk_at "rf"
        exact ⟨L6, k6, _, pt_low (by omega) (by omega), _, rfl⟩
    · rintro σ H7 ⟨L7, k7, c, hc, y4, rfl⟩
      walk_at "rf"
      refine ⟨tyL (k7 _ _ ne2 q4), ?_⟩
      walk_at "rf"
      refine r_appE (k7 _ _ ne2 q4) sm fun H8 g8 f8 => ?_
      exact put H7 c y4 _ L7 k7 hc H8 g8 f8
  · rintro σ H4 ⟨L4, k4, hi2, ps, y3, y4, y5, hl, hp, g4, q4, rfl⟩
    walk_at "rf"
    refine r_toT (SqL.of q4) fun t H5 nt g5 s5 => ?_
    exact h t ps H5 g5 ⟨by omega, hp⟩ (L4.same s5) (k4.trans (Keep.of s5))
theorem ok__law_octets (F : FunD K "_law_octets" "_law_octets" (defArgs s__law_octets) (defBody s__law_octets) (defScope s__law_octets) [] [] (glAd "_law_octets" K) fd) (m : mg "_law_octets" = some (.ref (glAd "_law_octets" K))) (nb : Nm K mg) (c__law_next : Cal P w K mg base 1 "_law_next" (sp__law_next K) []) (c__law_many : Cal P w K mg base 2 "_law_many" (sp__law_many K) []) : Cal P w K mg base 3 "_law_octets" (sp__law_octets K) [] := by
  refine calD F m sc__law_octets (fun _ _ _ _ _ _ us hl => match us, hl with | [_], _ => rfl) len1 (fun cdv A outer s H vs Q E hr h => ⟨_, (pss_cons (ps_set (i := 1) sc__law_octets.nd rfl (Or.inl rfl) (pe_c c__law_many hr (by decide) rfl (pa_cons (pv 0) (pa_cons pe_int pa_nil))))
    (pss_cons (ps_asg (pe_ix ix_list (pe_lstE (pa_cons (pe_tupE (pa_cons pe_int (pa_cons pe_int pa_nil))) (pa_cons (pe_tupE (pa_cons pe_int (pa_cons pe_int pa_nil))) (pa_cons (pe_tupE (pa_cons pe_int (pa_cons pe_int pa_nil))) (pa_cons (pe_tupE (pa_cons pe_int (pa_cons pe_int pa_nil))) (pa_cons (pe_tupE (pa_cons pe_int (pa_cons pe_int pa_nil))) pa_nil)))))) (pe_c c__law_next hr (by decide) rfl (pa_cons (pv 0) (pa_cons pe_int pa_nil))) (fun _ _ => rfl)) (pg_tup rfl (pgs_cons (pg_name (i := 2) sc__law_octets.nd rfl (Or.inr rfl)) (pgs_cons (pg_name (i := 3) sc__law_octets.nd rfl (Or.inr rfl)) pgs_nil))))
    (pss_one (ps_ret (pe_callTy call_tuple_ofE (by rfl) nb.tuple (by decide +kernel) (pa_cons (pe_lc (own := [("k", 4)]) (g := gName 4) (tt := tYes) rfl sc__law_octets.nd (pi_range1 rfl nb.range (pa_cons (pv 1) pa_nil)) (blkOk_by (N := ["state", "many", "low", "span", "k"]) (sc := defScope s__law_octets) (by decide +kernel)) (fun _ _ _ _ _ => pg_name (i := 4) sc__law_octets.nd rfl (Or.inl rfl)) (fun _ _ _ _ _ => pts_nil) (fun _ _ _ _ _ => (pe_op op_add (pv 2) (pe_c c__law_next hr (by decide) rfl (pa_cons (pv 0) (pa_cons (pv 3) pa_nil)))))) pa_nil)))))), ?_⟩)
  obtain ⟨_, rfl, S, l, rfl, L, h⟩ := h
  walk_at "rf"
  refine ⟨_, _, rfl, S, l, 280, rfl, rfl, by decide, L, fun m H3 hm0 hm1 L3 k3 => ?_⟩
  walk_at "rf"
  refine ⟨by show 2 ≤ sizeLine; decide, fun t1 H4 n1 g1 s1 => ?_⟩
  walk_at "rf"
  refine ⟨by show 2 ≤ sizeLine; decide, fun t2 H5 n2 g2 s2 => ?_⟩
  walk_at "rf"
  refine ⟨by show 2 ≤ sizeLine; decide, fun t3 H6 n3 g3 s3 => ?_⟩
  walk_at "rf"
  refine ⟨by show 2 ≤ sizeLine; decide, fun t4 H7 n4 g4 s4 => ?_⟩
  walk_at "rf"
  refine ⟨by show 2 ≤ sizeLine; decide, fun t5 H8 n5 g5 s5 => ?_⟩
  walk_at "rf"
  refine ⟨by show 5 ≤ sizeLine; decide, fun p9 H9 n9 g9 s9 => ?_⟩
  have L9 := L3.same (((((s1.trans s2).trans s3).trans s4).trans s5).trans s9)
  have k9 := k3.trans (Keep.of (((((s1.trans s2).trans s3).trans s4).trans s5).trans s9))
  have ne9 := (L3.same ((((s1.trans s2).trans s3).trans s4).trans s5)).ne_free n9
  have G1 := s9 _ _ (s5 _ _ (s4 _ _ (s3 _ _ (s2 _ _ g1))))
  have G2 := s9 _ _ (s5 _ _ (s4 _ _ (s3 _ _ g2)))
  have G3 := s9 _ _ (s5 _ _ (s4 _ _ g3))
  have G4 := s9 _ _ (s5 _ _ g4)
  have G5 := s9 _ _ g5
  walk_at "rf"
  refine b_next L9 (by decide) fun r H10 a10 b10 L10 k10 => ?_
  have tk := keep_tk L9.ls k10
  obtain ⟨t, lo, sp, et, ht, hsp⟩ : ∃ t lo sp, atI [V.ref t1, .ref t2, .ref t3, .ref t4, .ref t5] r = some (V.ref t) ∧ H10 t = some (.tup [.int lo, .int sp]) ∧ 0 < sp := by
    have : r = 0 ∨ r = 1 ∨ r = 2 ∨ r = 3 ∨ r = 4 := by omega
    rcases this with e | e | e | e | e <;> subst e
    · exact ⟨t1, 0, 256, rfl, tk _ _ G1, by decide⟩
    · exact ⟨t2, 32, 95, rfl, tk _ _ G2, by decide⟩
    · exact ⟨t3, 97, 26, rfl, tk _ _ G3, by decide⟩
    · exact ⟨t4, 42, 49, rfl, tk _ _ G4, by decide⟩
    · exact ⟨t5, 48, 10, rfl, tk _ _ G5, by decide⟩
  have k10' := k9.trans k10
  refine r_ixL (SqL.of (k10 _ _ ne9 g9)) et ?_
  refine r_gtup (SqT.of ht) rfl ?_
  walk_at "rf"
  refine ⟨by omega, by omega, fun D nD => ?_⟩
  have DS := L10.ne_free nD
  have nD0 : H D = none := k10'.free L10.ls nD
  refine lc_range (fun i H' => LB K S l H' ∧ Keep S H H' ∧ i ≤ 279 ∧ ∃ cs : List Int, cs.length = i ∧ H' D = some (.lst (cs.map V.int))) ⟨L10.new nD _, k10'.trans (Keep.of (same_upd nD _)), Nat.zero_le _, [], rfl, upd_same⟩ ?_ ?_
  · rintro i H11 hi ⟨L11, k11, hi2, cs, e1, e2⟩
    walk_at "rf"
    refine ⟨rfl, ?_⟩
    walk_at "rf"
    refine b_next L11 hsp fun c H12 a12 b12 L12 k12 => ?_
    walk_at "rf"
    exact ⟨_, k12 _ _ DS e2, small1000 (by rw [List.length_map]; omega), L10.away nD L12 _, keep_away (k11.trans k12) nD0, by omega, cs ++ [lo + c], by rw [List.length_append, e1]; rfl, by rw [upd_same, map_snoc]⟩
  rintro H11 ⟨L11, k11, hi2, cs, e1, e2⟩
  walk_at "rf"
  refine r_toT (SqL.of e2) fun t H12 nt g12 s12 => ?_
  exact h t cs H12 g12 (by omega) (L11.same s12) (k11.trans (Keep.of s12))
theorem ok__law_number (F : FunD K "_law_number" "_law_number" (defArgs s__law_number) (defBody s__law_number) (defScope s__law_number) [] [] (glAd "_law_number" K) fd) (m : mg "_law_number" = some (.ref (glAd "_law_number" K))) (nb : Nm K mg) (c__law_next : Cal P w K mg base 1 "_law_next" (sp__law_next K) []) (c__law_big : Cal P w K mg base 2 "_law_big" (sp__law_big K) []) (c__law_normal : Cal P w K mg base 1 "_law_normal" sp__law_normal []) : Cal P w K mg base 3 "_law_number" (sp__law_number K) [] := by
  refine calD F m sc__law_number (fun _ _ _ _ _ _ us hl => match us, hl with | [_, _], _ => rfl) len2 (fun cdv A outer s H vs Q E hr h => ⟨_, (pss_cons (ps_set (i := 2) sc__law_number.nd rfl (Or.inl rfl) (pe_c c__law_next hr (by decide) rfl (pa_cons (pv 0) (pa_cons pe_int pa_nil))))
    (pss_cons (ps_set (i := 3) sc__law_number.nd rfl (Or.inl rfl) (pe_ix ix_list (pe_lstE (pa_cons pe_int (pa_cons (pe_un un_neg pe_int) pa_nil))) (pe_c c__law_next hr (by decide) rfl (pa_cons (pv 0) (pa_cons pe_int pa_nil))) (fun _ _ => rfl)))
    (pss_cons (ps_asg (pe_c c__law_normal hr (by decide) rfl (pa_cons (pe_op op_mul (pv 3) (pe_c c__law_next hr (by decide) rfl (pa_cons (pv 0) (pa_cons pe_int pa_nil)))) (pa_cons pe_int pa_nil))) (pg_tup rfl (pgs_cons (pg_name (i := 4) sc__law_number.nd rfl (Or.inl rfl)) (pgs_cons (pg_name (i := 5) sc__law_number.nd rfl (Or.inl rfl)) pgs_nil))))
    (pss_cut (ps_if (PW.pt (pw_and (pt_cmpR op_gt (pv 2) pe_int (nomark _)) (pw_and1 (pt_cmpR op_lt (pv 2) pe_int (nomark _)))))
    (pss_cons (ps_set (i := 6) sc__law_number.nd rfl (Or.inl rfl) (pe_ix ix_list (pe_lstE (pa_cons pe_int (pa_cons pe_int (pa_cons pe_int (pa_cons pe_int (pa_cons pe_int (pa_cons pe_int (pa_cons pe_int (pa_cons (pe_op op_pow pe_int pe_int) (pa_cons (pe_op op_pow pe_int pe_int) (pa_cons (pe_op op_pow pe_int pe_int) (pa_cons (pe_op op_pow pe_int pe_int) (pa_cons (pe_op op_pow pe_int pe_int) (pa_cons (pe_op op_pow pe_int pe_int) pa_nil)))))))))))))) (pe_c c__law_next hr (by decide) rfl (pa_cons (pv 0) (pa_cons pe_int pa_nil))) (fun _ _ => rfl)))
    (pss_one (ps_asg (pe_c c__law_normal hr (by decide) rfl (pa_cons (pe_op op_mul (pv 3) (pe_op op_sub (pe_op op_add (pv 6) (pe_c c__law_next hr (by decide) rfl (pa_cons (pv 0) (pa_cons pe_int pa_nil)))) pe_int)) (pa_cons pe_int pa_nil))) (pg_tup rfl (pgs_cons (pg_name (i := 4) sc__law_number.nd rfl (Or.inl rfl)) (pgs_cons (pg_name (i := 5) sc__law_number.nd rfl (Or.inl rfl)) pgs_nil))))))
    (pss_one (ps_if (PW.pt (pw_and (pt_cmpR op_gt (pv 2) pe_int (nomark _)) (pw_and1 (pt_cmpR op_lt (pv 2) pe_int (nomark _)))))
    (pss_one (ps_asg (pe_c c__law_normal hr (by decide) rfl (pa_cons (pe_op op_mul (pv 3) (pe_c c__law_next hr (by decide) rfl (pa_cons (pv 0) (pa_cons pe_int pa_nil)))) (pa_cons (pe_c c__law_next hr (by decide) rfl (pa_cons (pv 0) (pa_cons pe_int pa_nil))) pa_nil))) (pg_tup rfl (pgs_cons (pg_name (i := 4) sc__law_number.nd rfl (Or.inl rfl)) (pgs_cons (pg_name (i := 5) sc__law_number.nd rfl (Or.inl rfl)) pgs_nil)))))
    (pss_one (ps_if (PW.pt (pw_and (pt_cmpR op_eq (pv 2) pe_int (nomark _)) (pw_and1 (pt_cmpR op_gt (pe_ix ix_list (pv 0) pe_int (fun _ _ => rfl)) pe_int (nomark _)))))
    (pss_cons (ps_asg (pe_op op_sub (pe_ix ix_list (pv 0) pe_int (fun _ _ => rfl)) pe_int) (pg_sub (pv 0) pe_int set_list))
    (pss_one (ps_par (i := 4) (j := 5) rfl sc__law_number.nd rfl rfl (by decide) rfl rfl (pa_cons (pe_op op_mul (pv 3) (pe_op op_add pe_int (pe_op op_mul pe_int (pe_c c__law_next hr (by decide) rfl (pa_cons (pv 0) (pa_cons pe_int pa_nil)))))) (pa_cons (pe_op op_sub pe_int (pe_c c__law_next hr (by decide) rfl (pa_cons (pv 0) (pa_cons pe_int pa_nil)))) pa_nil)) rfl)))
    (pss_one (ps_if (pt_cmpR op_gt (pv 2) pe_int (nomark _))
    (pss_cons (ps_set (i := 7) sc__law_number.nd rfl (Or.inl rfl) pe_int)
    (pss_cons (ps_for PassesOwn.never rfl (pi_range1 rfl nb.range (pa_cons (pe_c c__law_next hr (by decide) rfl (pa_cons (pv 0) (pa_cons pe_int pa_nil))) pa_nil)) (pg_name (i := 8) sc__law_number.nd rfl (Or.inl rfl))
    (pss_one (ps_set (i := 7) sc__law_number.nd rfl (Or.inl rfl) (pe_op op_mul (pv 7) pe_int))))
    (pss_one (ps_asg (pe_c c__law_normal hr (by decide) rfl (pa_cons (pe_op op_mul (pv 3) (pe_c c__law_big hr (by decide) rfl (pa_cons (pv 0) (pa_cons (pv 7) pa_nil)))) (pa_cons (pe_c c__law_next hr (by decide) rfl (pa_cons (pv 0) (pa_cons pe_int pa_nil))) pa_nil))) (pg_tup rfl (pgs_cons (pg_name (i := 4) sc__law_number.nd rfl (Or.inl rfl)) (pgs_cons (pg_name (i := 5) sc__law_number.nd rfl (Or.inl rfl)) pgs_nil)))))))
    pss_nil)))))))
    (pss_cut (ps_if (pt_val (pv 1))
    (pss_cons (ps_set (i := 5) sc__law_number.nd rfl (Or.inl rfl) (pe_ix ix_list (pe_lstE (pa_cons pe_int (pa_cons pe_int (pa_cons (pe_un un_neg pe_int) (pa_cons (pe_op op_sub (pe_un un_neg pe_int) (pe_c c__law_next hr (by decide) rfl (pa_cons (pv 0) (pa_cons pe_int pa_nil)))) (pa_cons (pe_op op_add pe_int (pe_c c__law_next hr (by decide) rfl (pa_cons (pv 0) (pa_cons pe_int pa_nil)))) (pa_cons (pe_op op_pow pe_int pe_int) (pa_cons (pe_op op_pow pe_int pe_int) (pa_cons (pe_un un_neg (pe_op op_pow pe_int pe_int)) pa_nil))))))))) (pe_c c__law_next hr (by decide) rfl (pa_cons (pv 0) (pa_cons pe_int pa_nil))) (fun _ _ => rfl)))
    (pss_one (ps_set (i := 4) sc__law_number.nd rfl (Or.inl rfl) (pe_op op_mul (pv 3) (pe_op op_add pe_int (pe_op op_mul pe_int (pe_c c__law_next hr (by decide) rfl (pa_cons (pv 0) (pa_cons pe_int pa_nil)))))))))
    pss_nil)
    (pss_one (ps_ret (pe_tupE (pa_cons pe_str (pa_cons (pv 4) (pa_cons (pv 5) pa_nil))))))))))), ?_⟩)
  obtain ⟨_, _, rfl, S, l, far, rfl, rfl, L, h⟩ := h
  have e60 : (10 : Nat) ^ 60 = 1000000000000000000000000000000000000000000000000000000000000 := by decide
  have e100 : (10 : Nat) ^ 60 < 10 ^ 100 := by decide
  walk_at "rf"
  refine b_next L (by decide) fun pick H1 a1 b1 L1 k1 => ?_
  walk_at "rf"
  refine ⟨by show 2 ≤ sizeLine; decide, fun p2 H2 n2 g2 s2 => ?_⟩
  have L2 := L1.same s2
  have ne2 := L1.ne_free n2
  have k2 := k1.trans (Keep.of s2)
  walk_at "rf"
  refine b_next L2 (by decide) fun r3 H3 a3 b3 L3 k3 => ?_
  obtain ⟨sg, esg, hsg⟩ : ∃ sg : Int, atI [V.int 1, V.int (-1)] r3 = some (.int sg) ∧ (sg = 1 ∨ sg = -1) := by
    have : r3 = 0 ∨ r3 = 1 := by omega
    rcases this with e | e <;> subst e
    · exact ⟨1, rfl, .inl rfl⟩
    · exact ⟨-1, rfl, .inr rfl⟩
  refine r_ixL (SqL.of (k3 _ _ ne2 g2)) esg ?_
  have k3 := k2.trans k3
  clear L1 L2 k1 k2 s2 g2 n2 ne2
  have mulok : ∀ x : Int, sg * x = x ∨ sg * x = -x := fun x => by
    rcases hsg with e | e <;> subst e
    · exact .inl (Int.one_mul x)
    · exact .inr (by omega)
  walk_at "rf"
  refine b_next L3 (by decide) fun r4 H4 a4 b4 L4 k4 => ?_
  have k4 := k3.trans k4
  refine r_I (.inl ⟨by omega, by omega⟩) ?_
  walk_at "rf"
  have m4 := mulok r4
  refine ⟨_, _, rfl, sg * r4, 0, rfl, rfl, by omega, fun p5 m0 e0 H5 nr5 n5 g5 s5 => ?_⟩
  obtain ⟨nf0, hm0⟩ := nf_of (m := sg * r4) (e := 0) (by omega) (by decide) (by decide) nr5
  refine r_gtup (SqT.of g5) rfl ?_
  have L5 := L4.same s5
  have k5 := k4.trans (Keep.of s5)
  clear L3 L4 k3 k4 s5 g5 n5
  walk_at "rg"
  refine r_cut (MidN K S l H far pick sg) ?_ ?_
  · have base_ : MidN K S l H far pick sg [some (.ref S.a), some (.bl far), some (.int pick), some (.int sg), some (.int m0), some (.int e0), none, none, none] H5 := ⟨L5, k5, m0, e0, _, _, _, nf0, hm0, rfl⟩
    walk_at "rg"
    refine r_ifB (decide (pick > 3 ∧ pick < 6)) (fun R hR => ?_) ?_
    · walk_at "rf"
      refine r_ite (fun c => ?_) (fun c => ?_)
      · have e : decide (pick > 3 ∧ pick < 6) = decide (pick < 6) := decide_eq_decide.mpr ⟨And.right, fun q => ⟨c, q⟩⟩
        rw [e] at hR
        walk_at "rf"
        exact hR
      · rw [decide_eq_false (fun z => c z.1)] at hR
        exact hR
    refine r_ite (fun c => ?_) (fun c => ?_)
    · walk_at "rf"
      refine ⟨by show 13 ≤ sizeLine; decide, fun p6 H6 n6 g6 s6 => ?_⟩
      have g6 : H6 p6 = some (.lst (edges13.map V.int)) := g6
      have L6 := L5.same s6
      have ne6 := L5.ne_free n6
      walk_at "rf"
      refine b_next L6 (by decide) fun r7 H7 a7 b7 L7 k7 => ?_
      obtain ⟨v, hv, ev⟩ := atI_ints (ns := edges13) (k := r7) a7 b7
      have hv2 := edges13_in v hv
      have e30 : (10 : Int) ^ 30 = 1000000000000000000000000000000 := by decide
      rw [e30] at hv2
      refine r_ixL (SqL.of (k7 _ _ ne6 g6)) ev ?_
      have k7 := (k5.trans (Keep.of s6)).trans k7
      walk_at "rf"
      refine b_next L7 (by decide) fun r8 H8 a8 b8 L8 k8 => ?_
      walk_at "rf"
      refine r_I (.inl ⟨by omega, by omega⟩) ?_
      walk_at "rf"
      have m8 := mulok (v + r8 - 1)
      refine ⟨_, _, rfl, sg * (v + r8 - 1), 0, rfl, rfl, by omega, fun p9 m' e' H9 nr9 n9 g9 s9 => ?_⟩
      obtain ⟨nf1, hm1⟩ := nf_of (m := sg * (v + r8 - 1)) (e := 0) (by omega) (by decide) (by decide) nr9
      refine r_gtup (SqT.of g9) rfl ?_
      walk_at "rf"
      exact ⟨L8.same s9, (k7.trans k8).trans (Keep.of s9), _, _, _, _, _, nf1, hm1, rfl⟩
    walk_at "rg"
    refine r_ifB (decide (pick > 5 ∧ pick < 8)) (fun R hR => ?_) ?_
    · walk_at "rf"
      refine r_ite (fun c => ?_) (fun c => ?_)
      · have e : decide (pick > 5 ∧ pick < 8) = decide (pick < 8) := decide_eq_decide.mpr ⟨And.right, fun q => ⟨c, q⟩⟩
        rw [e] at hR
        walk_at "rf"
        exact hR
      · rw [decide_eq_false (fun z => c z.1)] at hR
        exact hR
    refine r_ite (fun c => ?_) (fun c => ?_)
    · walk_at "rf"
      refine b_next L5 (by decide) fun r7 H7 a7 b7 L7 k7 => ?_
      refine r_I (.inl ⟨by omega, by omega⟩) ?_
      walk_at "rf"
      refine b_next L7 (by decide) fun r8 H8 a8 b8 L8 k8 => ?_
      walk_at "rf"
      have m8 := mulok r7
      refine ⟨_, _, rfl, sg * r7, r8, rfl, rfl, by omega, fun p9 m' e' H9 nr9 n9 g9 s9 => ?_⟩
      obtain ⟨nf1, hm1⟩ := nf_of (m := sg * r7) (e := r8) (by omega) a8 (by omega) nr9
      refine r_gtup (SqT.of g9) rfl ?_
      walk_at "rf"
      exact ⟨L8.same s9, ((k5.trans k7).trans k8).trans (Keep.of s9), _, _, _, _, _, nf1, hm1, rfl⟩
    obtain ⟨kk, f5, e5⟩ := L5.at_
    walk_at "rg"
    refine r_ifB (decide (pick = 8 ∧ f5 > 0)) (fun R hR => ?_) ?_
    · walk_at "rf"
      refine r_ite (fun c => ?_) (fun c => ?_)
      · have e : decide (pick = 8 ∧ f5 > 0) = decide (f5 > 0) := decide_eq_decide.mpr ⟨And.right, fun q => ⟨c, q⟩⟩
        rw [e] at hR
        walk_at "rf"
        refine r_ixL (SqL.of e5) rfl ?_
        walk_at "rf"
        exact hR
      · rw [decide_eq_false (fun z => c z.1)] at hR
        exact hR
    refine r_ite (fun c => ?_) (fun c => ?_)
    · walk_at "rf"
      refine r_ixL (SqL.of e5) rfl ?_
      walk_at "rf"
      refine r_setL e5 rfl ?_
      walk_at "rf"
      have L6 := L5.put kk l (f5 - 1)
      have k6 := k5.trans (Keep.put (H := H5) (.lst [.ref S.nl, .int kk, .int l, .ref S.sl, .int (f5 - 1)]))
      refine b_next L6 (by decide) fun r7 H7 a7 b7 L7 k7 => ?_
      walk_at "rf"
      refine r_I (.inl ⟨by omega, by omega⟩) ?_
      walk_at "rf"
      refine b_next L7 (by decide) fun r8 H8 a8 b8 L8 k8 => ?_
      walk_at "rf"
      have m8 := mulok (1 + 10 * r7)
      have nfx : Nf (sg * (1 + 10 * r7)) (800 - r8) ∧ (sg * (1 + 10 * r7)).natAbs < 10 ^ 60 := ⟨.inr ⟨by omega, by omega, by omega⟩, by omega⟩
      exact ⟨L8, (k6.trans k7).trans k8, _, _, _, _, _, nfx.1, nfx.2, rfl⟩
    walk_at "rf"
    refine r_ite (fun c => ?_) (fun c => ?_)
    · walk_at "rf"
      refine b_next L5 (by decide) fun r7 H7 a7 b7 L7 k7 => ?_
      have k7 := k5.trans k7
      walk_at "rf"
      refine r_turns (by omega) (by omega) (fun i σ H' => H7 = H' ∧ i ≤ 24 ∧ ∃ (y8 : Option V), σ = [some (.ref S.a), some (.bl far), some (.int pick), some (.int sg), some (.int m0), some (.int e0), none, some (.int (10 ^ (i + 1))), y8]) ⟨rfl, Nat.zero_le _, none, rfl⟩ ?_ ?_
      · rintro i σ _ hi ⟨rfl, hi2, y8, rfl⟩
        walk_at "rf"
        exact ⟨rfl, by omega, _, rfl⟩
      · rintro σ _ ⟨rfl, hi2, y8, rfl⟩
        walk_at "rf"
        refine ⟨_, _, rfl, S, l, _, rfl, rfl, Int.pow_pos (by decide), L7, fun r8 H8 a8 b8 L8 k8 => ?_⟩
        have hr8 : r8.natAbs < 10 ^ 30 := by
          have h1 : (10 : Int) ^ (r7.toNat + 1) ≤ 10 ^ 30 := by
            have h2 := pow10_le (a := r7.toNat + 1) (b := 30) (by omega)
            exact_mod_cast h2
          have : (10 : Int) ^ 30 = ((10 ^ 30 : Nat) : Int) := by rw [Int.natCast_pow]; rfl
          omega
        have e30 : (10 : Nat) ^ 30 = 1000000000000000000000000000000 := by decide
        rw [e30] at hr8
        walk_at "rf"
        refine r_I (.inl ⟨by omega, by omega⟩) ?_
        walk_at "rf"
        refine b_next L8 (by decide) fun r9 H9 a9 b9 L9 k9 => ?_
        walk_at "rf"
        have m8 := mulok r8
        refine ⟨_, _, rfl, sg * r8, r9, rfl, rfl, by omega, fun pa m' e' Ha nra na ga sa => ?_⟩
        obtain ⟨nf1, hm1⟩ := nf_of (m := sg * r8) (e := r9) (by omega) a9 (by omega) nra
        refine r_gtup (SqT.of ga) rfl ?_
        walk_at "rf"
        exact ⟨L9.same sa, ((k7.trans k8).trans k9).trans (Keep.of sa), _, _, _, _, _, nf1, hm1, rfl⟩
    · walk_at "rf"
      exact base_
  · rintro σ H6 ⟨L6, k6, m, e, y6, y7, y8, nf, hm, rfl⟩
    walk_at "rf"
    refine r_cut (fun σ H' => LB K S l H' ∧ Keep S H H' ∧ ∃ (m e : Int) (y6 y7 y8 : Option V), (far = false → Nf m e ∧ m.natAbs < 10 ^ 60) ∧ (far = true → ¬ (0 ≤ e ∧ e ≤ 800)) ∧ σ = [some (.ref S.a), some (.bl far), some (.int pick), some (.int sg), some (.int m), some (.int e), y6, y7, y8]) ?_ ?_
    · cases far with
      | false =>
        walk_at "rf"
        exact ⟨L6, k6, m, e, y6, y7, y8, fun _ => ⟨nf, hm⟩, fun z => Bool.noConfusion z, rfl⟩
      | true =>
        walk_at "rf"
        refine b_next L6 (by decide) fun r7 H7 a7 b7 L7 k7 => ?_
        walk_at "rf"
        refine b_next L7 (by decide) fun r8 H8 a8 b8 L8 k8 => ?_
        walk_at "rf"
        refine ⟨by show 8 ≤ sizeLine; decide, fun p9 H9 n9 g9 s9 => ?_⟩
        have g9 : H9 p9 = some (.lst (([801, 802, -1, -2 - r7, 801 + r8, 10 ^ 12, 10 ^ 39, -(10 ^ 39)] : List Int).map V.int)) := g9
        have L9 := L8.same s9
        have ne9 := L8.ne_free n9
        walk_at "rf"
        refine b_next L9 (by decide) fun ra Ha aa ba La ka => ?_
        obtain ⟨v, hv, ev⟩ := atI_ints (ns := [801, 802, -1, -2 - r7, 801 + r8, 10 ^ 12, 10 ^ 39, -(10 ^ 39)]) (k := ra) aa ba
        have hv2 : ¬ (0 ≤ v ∧ v ≤ 800) := by
          simp only [List.mem_cons, List.not_mem_nil, or_false] at hv
          rcases hv with e | e | e | e | e | e | e | e <;> omega
        refine r_ixL (SqL.of (ka _ _ ne9 g9)) ev ?_
        walk_at "rf"
        refine b_next La (by decide) fun rb Hb ab bb Lb_ kb => ?_
        walk_at "rf"
        refine r_I (.inl ⟨by omega, by omega⟩) ?_
        walk_at "rf"
        exact ⟨Lb_, ((((k6.trans k7).trans k8).trans (Keep.of s9)).trans ka).trans kb, _, v, _, _, _, (fun z => Bool.noConfusion z), fun _ => hv2, rfl⟩
    · rintro σ H6 ⟨L6, k6, m, e, y6, y7, y8, nf, hf, rfl⟩
      walk_at "rf"
      refine ⟨by show 3 ≤ sizeLine; decide, fun q H7 nq g7 s7 => ?_⟩
      exact h (.ref q) m e H7 nf hf (.tup g7 (.cons (.str _) (.cons (.int _) (.cons (.int _) .nil)))) (L6.same s7) (k6.trans (Keep.of s7))
theorem ok__law_leaf (F : FunD K "_law_leaf" "_law_leaf" (defArgs s__law_leaf) (defBody s__law_leaf) (defScope s__law_leaf) [] [] (glAd "_law_leaf" K) fd) (m : mg "_law_leaf" = some (.ref (glAd "_law_leaf" K))) (nb : Nm K mg) (c__law_next : Cal P w K mg base 1 "_law_next" (sp__law_next K) []) (c__law_number : Cal P w K mg base 3 "_law_number" (sp__law_number K) []) (c__law_points : Cal P w K mg base 3 "_law_points" (sp__law_points K) []) (c__law_octets : Cal P w K mg base 3 "_law_octets" (sp__law_octets K) []) : Cal P w K mg base 4 "_law_leaf" (sp__law_leaf K) [] := by
  refine calD F m sc__law_leaf (fun _ _ _ _ _ _ us hl => match us, hl with | [_, _], _ => rfl) len2 (fun cdv A outer s H vs Q E hr h => ⟨_, (pss_cons (ps_set (i := 2) sc__law_leaf.nd rfl (Or.inl rfl) (pe_ix ix_list (pv 1) (pe_c c__law_next hr (by decide) rfl (pa_cons (pv 0) (pa_cons (pe_callB call_len_seq (by rfl) nb.len PySem.boot_len (pa_cons (pv 1) pa_nil)) pa_nil))) (fun _ _ => rfl)))
    (pss_cons (ps_if (pt_cmpR op_eq (pv 2) pe_str (nomark _))
    (pss_one (ps_ret (pe_tupE (pa_cons pe_str (pa_cons (pe_cmpR op_eq (pe_c c__law_next hr (by decide) rfl (pa_cons (pv 0) (pa_cons pe_int pa_nil))) pe_int (nomark _)) pa_nil)))))
    pss_nil)
    (pss_cons (ps_if (PW.pt (pw_or (pt_cmpR op_eq (pv 2) pe_str (nomark _)) (pw_or1 (pt_cmpR op_eq (pv 2) pe_str (nomark _)))))
    (pss_one (ps_ret (pe_c c__law_number hr (by decide) rfl (pa_cons (pv 0) (pa_cons (pe_cmpR op_eq (pv 2) pe_str (nomark _)) pa_nil)))))
    pss_nil)
    (pss_cons (ps_if (pt_cmpR op_eq (pv 2) pe_str (nomark _))
    (pss_one (ps_ret (pe_tupE (pa_cons pe_str (pa_cons (pe_c c__law_octets hr (by decide) rfl (pa_cons (pv 0) pa_nil)) pa_nil)))))
    pss_nil)
    (pss_cons (ps_if (pt_cmpR op_eq (pv 2) pe_str (nomark _))
    (pss_one (ps_ret (pe_tupE (pa_cons pe_str (pa_cons (pe_c c__law_points hr (by decide) rfl (pa_cons (pv 0) pa_nil)) pa_nil)))))
    pss_nil)
    (pss_one (ps_ret (pe_tupE (pa_cons pe_str pa_nil))))))))), ?_⟩)
  obtain ⟨_, _, rfl, S, l, kl, ks, rfl, rfl, hne, hk, ⟨ks0, ksl, ksm⟩, L, h⟩ := h
  walk_at "rf"
  refine ⟨kl, _, rfl, .inl (SqL.of hk), ?_⟩
  rw [List.length_map]
  walk_at "rf"
  refine b_next L (by omega) fun r1 H1 a1 b1 L1 k1 => ?_
  have hk1 := k1 _ _ hne hk
  have hr : r1.toNat < ks.length := by omega
  have er : r1 = ((r1.toNat : Nat) : Int) := by omega
  have ex : atI (ks.map V.str) r1 = some (V.str ks[r1.toNat]) := by
    have q := atI_nat (xs := ks.map V.str) (j := r1.toNat) (v := V.str ks[r1.toNat]) (by rw [List.getElem?_map, List.getElem?_eq_getElem hr]; rfl)
    rw [← er] at q
    exact q
  have hm : ks[r1.toNat] ∈ ks := List.getElem_mem hr
  generalize ks[r1.toNat] = kk at ex hm
  refine r_ixL (SqL.of hk1) ex ?_
  rcases ksm kk hm with e | e | e | e | e | e <;> subst e
  · walk_at "rf"
    refine r_iteN (show ¬ ("number" : Str) = "truth" by decide +kernel) ?_
    walk_at "rf"
    refine r_itep (show ("number" : Str) = "number" from rfl) ?_
    walk_at "rf"
    refine ⟨_, _, rfl, S, l, false, rfl, congrArg V.bl (decide_eq_false (show ¬ ("number" : Str) = "far" by decide +kernel)), L1, fun v m e H2 nf hf tp L2 k2 => ?_⟩
    exact h v "number" _ H2 (.of (.number m e (nf rfl).1 (nf rfl).2)) tp L2 (k1.trans k2)
  · walk_at "rf"
    refine r_iteN (show ¬ ("far" : Str) = "truth" by decide +kernel) ?_
    walk_at "rf"
    refine r_iteN (show ¬ ("far" : Str) = "number" by decide +kernel) ?_
    walk_at "rf"
    refine r_itep (show ("far" : Str) = "far" from rfl) ?_
    walk_at "rf"
    refine ⟨_, _, rfl, S, l, true, rfl, congrArg V.bl (decide_eq_true rfl), L1, fun v m e H2 nf hf tp L2 k2 => ?_⟩
    exact h v "number" _ H2 (.far m e (hf rfl)) tp L2 (k1.trans k2)
  · walk_at "rf"
    refine r_iteN (show ¬ ("bytes" : Str) = "truth" by decide +kernel) ?_
    walk_at "rf"
    refine r_iteN (show ¬ ("bytes" : Str) = "number" by decide +kernel) ?_
    walk_at "rf"
    refine r_iteN (show ¬ ("bytes" : Str) = "far" by decide +kernel) ?_
    walk_at "rf"
    refine r_itep (show ("bytes" : Str) = "bytes" from rfl) ?_
    walk_at "rf"
    refine ⟨_, rfl, S, l, rfl, L1, fun p os H2 g2 ho L2 k2 => ?_⟩
    walk_at "rf"
    refine ⟨by show 2 ≤ sizeLine; decide, fun q H3 nq g3 s3 => ?_⟩
    exact h (.ref q) "bytes" _ H3 (.of (.bytes os ho)) (.tup g3 (.cons (.str _) (.cons (tp_kd (s3 _ _ g2)) .nil))) (L2.same s3) ((k1.trans k2).trans (Keep.of s3))
  · walk_at "rf"
    refine r_iteN (show ¬ ("text" : Str) = "truth" by decide +kernel) ?_
    walk_at "rf"
    refine r_iteN (show ¬ ("text" : Str) = "number" by decide +kernel) ?_
    walk_at "rf"
    refine r_iteN (show ¬ ("text" : Str) = "far" by decide +kernel) ?_
    walk_at "rf"
    refine r_iteN (show ¬ ("text" : Str) = "bytes" by decide +kernel) ?_
    walk_at "rf"
    refine r_itep (show ("text" : Str) = "text" from rfl) ?_
    walk_at "rf"
    refine ⟨_, rfl, S, l, rfl, L1, fun p os H2 g2 ho L2 k2 => ?_⟩
    walk_at "rf"
    refine ⟨by show 2 ≤ sizeLine; decide, fun q H3 nq g3 s3 => ?_⟩
    exact h (.ref q) "text" _ H3 (.odd _ _ (by first | exact .inl rfl | exact .inr (.inl rfl) | exact .inr (.inr rfl))) (.tup g3 (.cons (.str _) (.cons (tp_kd (s3 _ _ g2)) .nil))) (L2.same s3) ((k1.trans k2).trans (Keep.of s3))
  · walk_at "rf"
    refine r_itep (show ("truth" : Str) = "truth" from rfl) ?_
    walk_at "rf"
    refine b_next L1 (by decide) fun r2 H2 a2 b2 L2 k2 => ?_
    walk_at "rf"
    refine ⟨by show 2 ≤ sizeLine; decide, fun q H3 nq g3 s3 => ?_⟩
    exact h (.ref q) "truth" [.bool (decide (r2 = 0))] H3 (.odd _ _ (by first | exact .inl rfl | exact .inr (.inl rfl) | exact .inr (.inr rfl))) (.tup g3 (.cons (.str _) (.cons (.bl _) .nil))) (L2.same s3) ((k1.trans k2).trans (Keep.of s3))
  · walk_at "rf"
    refine r_iteN (show ¬ ("null" : Str) = "truth" by decide +kernel) ?_
    walk_at "rf"
    refine r_iteN (show ¬ ("null" : Str) = "number" by decide +kernel) ?_
    walk_at "rf"
    refine r_iteN (show ¬ ("null" : Str) = "far" by decide +kernel) ?_
    walk_at "rf"
    refine r_iteN (show ¬ ("null" : Str) = "bytes" by decide +kernel) ?_
    walk_at "rf"
    refine r_iteN (show ¬ ("null" : Str) = "text" by decide +kernel) ?_
    walk_at "rf"
    refine ⟨by show 1 ≤ sizeLine; decide, fun q H3 nq g3 s3 => ?_⟩
    exact h (.ref q) "null" [] H3 (.odd _ _ (by first | exact .inl rfl | exact .inr (.inl rfl) | exact .inr (.inr rfl))) (.tup g3 (.cons (.str _) .nil)) (L1.same s3) (k1.trans (Keep.of s3))
theorem ok__law_value (n : Nat) (F : FunD K "_law_value" "_law_value" (defArgs s__law_value) (defBody s__law_value) (defScope s__law_value) [] [] (glAd "_law_value" K) fd) (m : mg "_law_value" = some (.ref (glAd "_law_value" K))) (nb : Nm K mg) (c__law_next : Cal P w K mg base 1 "_law_next" (sp__law_next K) []) (c__law_many : Cal P w K mg base 2 "_law_many" (sp__law_many K) []) (c__law_points : Cal P w K mg base 3 "_law_points" (sp__law_points K) []) (c__law_leaf : Cal P w K mg base 4 "_law_leaf" (sp__law_leaf K) []) (c__law_value : Cal P w K mg base (5 + n) "_law_value" (sp__law_value K n) []) : Cal P w K mg base (5 + n + 1) "_law_value" (sp__law_value K (n + 1)) [] := by
  refine calD F m sc__law_value (fun _ _ _ _ _ _ us hl => match us, hl with | [_, _, _, _], _ => rfl) len4 (fun cdv A outer s H vs Q E hr h => ⟨_, (pss_cons (ps_asg (pe_op op_sub (pe_ix ix_list (pv 0) pe_int (fun _ _ => rfl)) pe_int) (pg_sub (pv 0) pe_int set_list))
    (pss_cons (ps_set (i := 4) sc__law_value.nd rfl (Or.inl rfl) (pe_c c__law_next hr (by omega) rfl (pa_cons (pv 0) (pa_cons pe_int pa_nil))))
    (pss_cons (ps_if (PW.pt (pw_or (pt_cmpR op_eq (pv 1) pe_int (nomark _)) (pw_or (pt_cmpR op_le (pe_ix ix_list (pv 0) pe_int (fun _ _ => rfl)) pe_int (nomark _)) (pw_or1 (pt_cmpR op_lt (pv 4) pe_int (nomark _))))))
    (pss_one (ps_ret (pe_c c__law_leaf hr (by omega) rfl (pa_cons (pv 0) (pa_cons (pv 2) pa_nil)))))
    pss_nil)
    (pss_cons (ps_set (i := 5) sc__law_value.nd rfl (Or.inl rfl) (pe_c c__law_many hr (by omega) rfl (pa_cons (pv 0) (pa_cons pe_int pa_nil))))
    (pss_cons (ps_if (PW.pt (pw_or (pt_cmpR op_eq (pv 4) pe_int (nomark _)) (pw_or1 (pt_not (pt_val (pv 3))))))
    (pss_one (ps_ret (pe_tup (pa_cons pe_str (pa_cons (pe_callTy call_tuple_of (by rfl) nb.tuple (by decide +kernel) (pa_cons (pe_lc (own := [("k", 6)]) (g := gName 6) (tt := tYes) rfl sc__law_value.nd (pi_range1 rfl nb.range (pa_cons (pv 5) pa_nil)) (blkOk_by (N := ["state", "deep", "kinds", "has_maps", "pick", "many", "k", "entries", "key", "entry"]) (sc := defScope s__law_value) (by decide +kernel)) (fun _ _ _ _ _ => pg_name (i := 6) sc__law_value.nd rfl (Or.inl rfl)) (fun _ _ _ _ _ => pts_nil) (fun _ _ _ _ _ => (pe_c c__law_value hr (by omega) rfl (pa_cons (pv 0) (pa_cons (pe_op op_sub (pv 1) pe_int) (pa_cons (pv 2) (pa_cons (pv 3) pa_nil))))))) pa_nil)) pa_nil)))))
    pss_nil)
    (pss_cons (ps_set (i := 7) sc__law_value.nd rfl (Or.inl rfl) (pe_lst pa_nil))
    (pss_cons (ps_for PassesOwn.never rfl (pi_range1 rfl nb.range (pa_cons (pv 5) pa_nil)) (pg_name (i := 6) sc__law_value.nd rfl (Or.inl rfl))
    (pss_cons (ps_set (i := 8) sc__law_value.nd rfl (Or.inl rfl) (pe_c c__law_points hr (by omega) rfl (pa_cons (pv 0) pa_nil)))
    (pss_one (ps_if (pt_cmpR (op_notInD (hu65 hr)) (pv 8) (pe_lc (own := [("entry", 9)]) (g := gName 9) (tt := tYes) rfl sc__law_value.nd (pi_list (pv 7)) (blkOk_by (N := ["state", "deep", "kinds", "has_maps", "pick", "many", "k", "entries", "key", "entry"]) (sc := defScope s__law_value) (by decide +kernel)) (fun _ _ _ _ _ => pg_name (i := 9) sc__law_value.nd rfl (Or.inl rfl)) (fun _ _ _ _ _ => pts_nil) (fun _ _ _ _ _ => (pe_ix (show IxR _ (rIxT K) from ix_tup) (pv 9) pe_int (fun _ _ => rfl)))) rfl)
    (pss_one (ps_expr (pe_bm PySem.F.plainAttrs_list PySem.F.slot_list_append PySem.F.type_list_append mt_append (pv 7) (pa_cons (pe_tup (pa_cons (pv 8) (pa_cons (pe_c c__law_value hr (by omega) rfl (pa_cons (pv 0) (pa_cons (pe_op op_sub (pv 1) pe_int) (pa_cons (pv 2) (pa_cons (pv 3) pa_nil))))) pa_nil))) pa_nil))))
    pss_nil))))
    (pss_one (ps_ret (pe_tup (pa_cons pe_str (pa_cons (pe_callTy call_tuple_of (by rfl) nb.tuple (by decide +kernel) (pa_cons (pe_callB (cr_sortedE hr.units) (by rfl) nb.sorted (by decide +kernel) (pa_cons (pv 7) pa_nil)) pa_nil)) pa_nil)))))))))))), ?_⟩)
  obtain ⟨_, _, _, _, rfl, S, l0, deep, kl, ks, mp, rfl, rfl, rfl, rfl, hkn, hk, hks, hd, L, h⟩ := h
  obtain ⟨k0, f5, e⟩ := L.at_
  walk_at "rd"
  refine r_ixL (SqL.of e) rfl ?_
  walk_at "rd"
  refine r_setL e rfl ?_
  walk_at "rd"
  have L1 := L.put k0 (l0 - 1) f5
  have kk1 : Keep S H (upd H S.a (.lst [.ref S.nl, .int k0, .int (l0 - 1), .ref S.sl, .int f5])) := Keep.put _
  refine b_next L1 (by decide) fun pick H2 a2 b2 L2 k2 => ?_
  have k2 := kk1.trans k2
  clear L1 kk1
  obtain ⟨k0', f5', e2⟩ := L2.at_
  walk_at "ri"
  refine r_ifB (decide (deep = 0 ∨ l0 - 1 ≤ 0 ∨ pick < 2)) ?_ ?_
  · intro R hR
    walk_at "rd"
    refine r_ite (fun c => ?_) (fun c => ?_)
    · walk_at "rd"
      rw [decide_eq_true (.inl (by omega))] at hR
      exact hR
    walk_at "rd"
    refine r_ixL (SqL.of e2) rfl ?_
    walk_at "rd"
    refine r_ite (fun c2 => ?_) (fun c2 => ?_)
    · walk_at "rd"
      rw [decide_eq_true (.inr (.inl c2))] at hR
      exact hR
    walk_at "rd"
    have ed : decide (pick < 2) = decide (deep = 0 ∨ l0 - 1 ≤ 0 ∨ pick < 2) := decide_eq_decide.mpr ⟨fun q => .inr (.inr q), fun q => by omega⟩
    rw [ed]
    exact hR
  refine r_ite (fun c => ?_) (fun c => ?_)
  · walk_at "rd"
    exact ⟨_, _, rfl, S, _, kl, ks, rfl, rfl, hkn, k2 _ _ hkn hk, hks, L2, fun v k r H3 hl hv L3 k3 => h v (.lf k r) _ H3 (gf_leaf hl _) (bud_leaf (Nat.le_refl _)) hv L3 (k2.trans k3)⟩
  obtain ⟨deep, rfl⟩ : ∃ d, deep = d + 1 := ⟨deep - 1, by omega⟩
  have ed : ((deep + 1 : Nat) : Int) - 1 = ((deep : Nat) : Int) := by omega
  have hl0 : 0 < l0 - 1 := by omega
  clear e2
  walk_at "rd"
  refine ⟨_, _, rfl, S, _, 30, rfl, rfl, by decide, L2, fun m H4 hm0 hm1 L4 k4 => ?_⟩
  have k4 := k2.trans k4
  clear L2 k2
  walk_at "ri"
  refine r_ifB (decide (pick = 2 ∨ mp = false)) (fun R hR => ?_) ?_
  · walk_at "rd"
    refine r_ite (fun c => ?_) (fun c => ?_)
    · rw [decide_eq_true (.inl c)] at hR
      exact hR
    · have e : decide (pick = 2 ∨ mp = false) = !mp := by
        cases mp
        · exact decide_eq_true (.inr rfl)
        · exact decide_eq_false (fun z => z.elim c fun z => by cases z)
      rw [e] at hR
      walk_at "rd"
      exact hR
  refine r_ite (fun c => ?_) (fun c => ?_)
  · walk_at "rd"
    refine ⟨by omega, by omega, fun D nD => ?_⟩
    have DS := L4.ne_free nD
    have nD0 : H D = none := k4.free L4.ls nD
    refine lc_range (fun i H' => ∃ l' : Int, LB K S l' H' ∧ Keep S H H' ∧ ∃ (vs : List V) (ts : List Vl), ts.length = i ∧ BudL (l0 - 1) l' (vszL ts) i ∧ gfL deep ts ∧ TpAll H' vs (datL ts) ∧ H' D = some (.lst vs)) ⟨_, L4.new nD _, k4.trans (Keep.of (same_upd nD _)), [], [], rfl, budL_nil _, trivial, .nil, upd_same⟩ ?_ ?_
    · rintro i H5 hi ⟨l1, L5, k5, vs, ts, e1, eb, e2, e3, e4⟩
      walk_at "rd"
      refine ⟨rfl, ?_⟩
      walk_at "rd"
      refine ⟨_, _, _, _, rfl, S, l1, deep, kl, ks, mp, rfl, congrArg V.int ed, rfl, rfl, hkn, k5 _ _ hkn hk, hks, by omega, L5, fun v t l2 H6 ok bd tp L6 k6 => ?_⟩
      have hD6 := k6 _ _ DS e4
      have hl : vs.length = i := by rw [tpAll_len e3, datL_map, List.length_map, e1]
      have tk6 := (keep_tk L5.ls k6).trans (tk_put (o := .lst (vs ++ [v])) hD6)
      refine ⟨vs, hD6, small1000 (by omega), l2, L4.away nD L6 _, keep_away (k5.trans k6) nD0, vs ++ [v], ts ++ [t], by rw [List.length_append, e1]; rfl, by rw [vszL_app]; exact budL_cons eb bd, gfL_app e2 ⟨ok, trivial⟩, ?_, upd_same⟩
      rw [datL_app]
      exact tpAll_app (TpAll.tk tk6 _ _ e3) (.cons (Tp.tk (tk_put hD6) _ _ tp) .nil)
    · rintro H5 ⟨l1, L5, k5, vs, ts, e1, eb, e2, e3, e4⟩
      walk_at "rd"
      refine ⟨D, _, rfl, .inl ⟨SqL.of e4, fun t nt => ?_⟩⟩
      walk_at "rd"
      refine ⟨by show 2 ≤ sizeLine; decide, fun q nq => ?_⟩
      have s7 := (same_upd nt (.tup vs)).trans (same_upd nq (.tup [.str "list", .ref t]))
      refine h (.ref q) (.ls ts) _ _ ⟨by omega, e2⟩ (bud_node hl0 (by omega) eb) (.tup upd_same (.cons (.str _) (.cons (.tup (same_upd nq _ _ _ upd_same) (TpAll.tk (Same.tk s7) _ _ e3)) .nil))) (L5.same s7) (k5.trans (Keep.of s7))
  · skip
    walk_at "rd"
    refine ⟨Nat.zero_le _, fun D nD => ?_⟩
    have DS := L4.ne_free nD
    have nD0 : H D = none := k4.free L4.ls nD
    walk_at "rd"
    refine r_turns (by omega) (by omega) (fun i σ H' => ∃ l' : Int, LB K S l' H' ∧ Keep S H H' ∧ ∃ (es : List (Ent × Vl)) (y4 y6 y7 : Option V), es.length ≤ i ∧ BudL (l0 - 1) l' ((es.map fun e => vsz e.2).sum) es.length ∧ (∀ e ∈ es, EvF H' deep e) ∧ (es.map (·.1.k)).Nodup ∧ H' D = some (.lst (es.map fun e => V.ref e.1.t)) ∧ σ = [some (.ref S.a), some (.int (deep + 1 : Nat)), some (.ref kl), some (.bl mp), some (.int pick), some (.int m), y4, some (.ref D), y6, y7])
      ⟨_, L4.new nD _, k4.trans (Keep.of (same_upd nD _)), [], _, _, _, Nat.le_refl _, budL_nil _, fun _ h => absurd h (by simp), List.nodup_nil, upd_same, rfl⟩ ?_ ?_
    · rintro i σ H5 hi ⟨l1, L5, k5, es, y4, y6, y7, e1, eb, e2, e3, e4, rfl⟩
      walk_at "rd"
      refine ⟨_, rfl, S, l1, rfl, L5, fun q ps H6 hq hpl L6 k6 => ?_⟩
      have hD6 := k6 _ _ DS e4
      have e2 : ∀ e ∈ es, EvF H6 deep e := fun e he => (e2 e he).tk (keep_tk L5.ls k6)
      have k6 := k5.trans k6
      clear L5 k5 e4
      walk_at "rd"
      refine ⟨D, rfl, ⟨_, SqL.of hD6⟩, fun D2 nD2 => ?_⟩
      refine lc_list (xs := es.map fun e => V.ref e.1.t) (fun j H' => Same H6 H' ∧ H' D2 = some (.lst ((es.take j).map fun e => V.ref e.1.q))) ⟨same_upd nD2 _, upd_same⟩ (fun j H' _ hh => SqL.of (hh.1 _ _ hD6)) ?_ ?_
      · rintro j x H7 hx ⟨s7, g7⟩
        obtain ⟨en, hj, rfl, et⟩ := map_get hx
        walk_at "rd"
        refine ⟨rfl, ?_⟩
        walk_at "rd"
        refine r_ixT (SqT.of (s7 _ _ (e2 en (List.mem_of_getElem? hj)).1.1)) rfl ?_
        refine ⟨_, g7, small1000 (by rw [List.length_map, List.length_take]; omega), same_away s7 nD2, ?_⟩
        rw [upd_same, et, List.map_append]
        rfl
      rintro H7 ⟨s7, g7⟩
      rw [List.length_map, List.take_length] at g7
      have L7 := L6.same s7
      have k7 := k6.trans (Keep.of s7)
      have hD7 := s7 _ _ hD6
      have hq7 := s7 _ _ hq
      have e2 : ∀ e ∈ es, EvF H7 deep e := fun e he => (e2 e he).tk (Same.tk s7)
      clear L6 k6 hD6 hq s7
      refine ⟨kd ps, (es.map (·.1.k)).map kd, Tp.dp _ _ (tp_kd hq7), .lst (SqL.of g7) ?_, shaped_kd ps, shaped_kds _, ?_⟩
      · rw [List.map_map]
        exact dpa_map fun e he => Tp.dp _ _ (tp_kd (e2 e he).1.2)
      rw [eqv_kds]
      refine r_bl (r_iten (fun c => ?_) (fun c => ?_))
      · walk_at "rd"
        refine ⟨tyL hD7, ?_⟩
        walk_at "rd"
        refine ⟨_, _, _, _, rfl, S, l1, deep, kl, ks, mp, rfl, congrArg V.int ed, rfl, rfl, hkn, k7 _ _ hkn hk, hks, by omega, L7, fun v t l2 H8 ok bd tp L8 k8 => ?_⟩
        obtain ⟨u, rfl⟩ := vl_ref tp
        have tk8 := keep_tk L7.ls k8
        have hD8 := k8 _ _ DS hD7
        walk_at "rd"
        refine ⟨by show 2 ≤ sizeLine; decide, fun T nT => ?_⟩
        have s9 := same_upd nT (.tup [.ref q, .ref u])
        have hD9 := s9 _ _ hD8
        have L9 := L8.new nT (.tup [.ref q, .ref u])
        walk_at "rd"
        refine r_app hD9 (small1000 (by rw [List.length_map]; omega)) ?_
        have tk9 := (Same.tk s9).trans (tk_put (o := .lst ((es.map fun e => V.ref e.1.t) ++ [.ref T])) hD9)
        refine ⟨l2, L4.away nD L9 _, keep_away ((k7.trans k8).trans (Keep.of s9)) nD0, es ++ [(⟨T, q, u, ps⟩, t)], _, _, _, by rw [List.length_append]; show es.length + 1 ≤ i + 1; omega, ?_, fun e he => ?_, ?_, ?_, rfl⟩
        · rw [List.map_append, List.sum_append, List.length_append]
          exact budL_cons eb bd
        · rcases List.mem_append.mp he with q1 | q1
          · exact (e2 e q1).tk (tk8.trans tk9)
          · have e5 : e = (⟨T, q, u, ps⟩, t) := by simpa using q1
            subst e5
            exact ⟨⟨tk_put hD9 _ _ upd_same, tk9 _ _ (tk8 _ _ hq7)⟩, Tp.tk tk9 _ _ tp, ok, hpl⟩
        · rw [List.map_append, List.nodup_append]
          refine ⟨e3, by simp, ?_⟩
          intro a ha b hb
          have eb : b = ps := by simpa using hb
          rw [eb]
          exact fun z => c (z ▸ ha)
        · rw [upd_same, List.map_append]
          rfl
      · walk_at "rd"
        exact ⟨l1, L7, k7, es, _, _, _, by omega, eb, e2, e3, hD7, rfl⟩
    · rintro σ H5 ⟨l1, L5, k5, es, y4, y6, y7, e1, eb, e2, e3, e4, rfl⟩
      walk_at "rd"
      refine ⟨D, es.map (·.1), rfl, ?_, fun e he => ?_, ?_, fun es' l' pe srt nl => ?_⟩
      · rw [List.map_map]
        exact SqL.of e4
      · obtain ⟨x, hx, rfl⟩ := List.mem_map.mp he
        exact (e2 x hx).1
      · rw [List.map_map]
        exact e3
      obtain ⟨zs, pz, rfl⟩ := perm_up (fun e : Ent × Vl => e.1) pe
      walk_at "rd"
      refine ⟨l', _, rfl, .inl ⟨SqL.of upd_same, fun t nt => ?_⟩⟩
      walk_at "rd"
      refine ⟨by show 2 ≤ sizeLine; decide, fun q nq => ?_⟩
      have s7 := ((same_upd nl (.lst ((zs.map fun e => e.1).map fun e => V.ref e.t))).trans (same_upd nt (.tup ((zs.map fun e => e.1).map fun e => V.ref e.t)))).trans (same_upd nq (.tup [.str "map", .ref t]))
      have e7 : ∀ e ∈ zs, EvF _ deep e := fun e he => (e2 e (pz.mem_iff.mp he)).tk (Same.tk s7)
      have ezl := pz.length_eq
      have ezs : (zs.map fun e => vsz e.2).sum = (es.map fun e => vsz e.2).sum := (pz.map _).sum_nat
      refine h (.ref q) (.mp (zs.map fun e => (e.1.k, e.2))) _ _ ⟨?_, ?_, ?_, ?_⟩ ?_ (.tup upd_same (.cons (.str _) (.cons (.tup (same_upd nq _ _ _ upd_same) ?_) .nil))) (L5.same s7) (k5.trans (Keep.of s7))
      · rw [List.length_map, ezl]
        omega
      · rw [List.map_map] at srt ⊢
        exact srt
      · intro e he
        obtain ⟨x, hx, rfl⟩ := List.mem_map.mp he
        exact (e7 x hx).2.2.2
      · refine gfM_of fun e he => ?_
        obtain ⟨x, hx, rfl⟩ := List.mem_map.mp he
        exact (e7 x hx).2.2.1
      · show Bud l0 l1 (1 + vszM (zs.map fun e => (e.1.k, e.2)))
        rw [vszM_sum, List.length_map, List.map_map, ezl]
        have ez2 : (zs.map ((fun e : List Int × Vl => vsz e.2) ∘ fun e : Ent × Vl => (e.1.k, e.2))).sum = (es.map fun e => vsz e.2).sum := ezs
        rw [ez2]
        exact bud_map hl0 (by omega) eb
      · exact tpa_entF e7
theorem rec__law_value (F : FunD K "_law_value" "_law_value" (defArgs s__law_value) (defBody s__law_value) (defScope s__law_value) [] [] (glAd "_law_value" K) fd) (m : mg "_law_value" = some (.ref (glAd "_law_value" K))) (nb : Nm K mg) (c__law_next : Cal P w K mg base 1 "_law_next" (sp__law_next K) []) (c__law_many : Cal P w K mg base 2 "_law_many" (sp__law_many K) []) (c__law_points : Cal P w K mg base 3 "_law_points" (sp__law_points K) []) (c__law_leaf : Cal P w K mg base 4 "_law_leaf" (sp__law_leaf K) []) : ∀ n, Cal P w K mg base (5 + n) "_law_value" (sp__law_value K n) []
  | 0 => calD (k := 4) F m sc__law_value (fun _ _ _ _ _ _ us hl => match us, hl with | [_, _, _, _], _ => rfl) (fun _ _ _ _ h => (no__law_value h).elim) (fun _ _ _ _ _ _ _ _ _ h => (no__law_value h).elim)
  | n + 1 => ok__law_value n F m nb c__law_next c__law_many c__law_points c__law_leaf (rec__law_value F m nb c__law_next c__law_many c__law_points c__law_leaf n)
theorem ok__law_towered (F : FunD K "_law_towered" "_law_towered" (defArgs s__law_towered) (defBody s__law_towered) (defScope s__law_towered) [] [] (glAd "_law_towered" K) fd) (m : mg "_law_towered" = some (.ref (glAd "_law_towered" K))) (nb : Nm K mg) (c__law_next : Cal P w K mg base 1 "_law_next" (sp__law_next K) []) : Cal P w K mg base 2 "_law_towered" (sp__law_towered K) [] := by
  refine calD F m sc__law_towered (fun _ _ _ _ _ _ us hl => match us, hl with | [_, _, _], _ => rfl) len3 (fun cdv A outer s H vs Q E hr h => ⟨_, (pss_cut (ps_if (pt_cmpR op_eq (pe_c c__law_next hr (by decide) rfl (pa_cons (pv 0) (pa_cons pe_int pa_nil))) pe_int (nomark _))
    (pss_one (ps_for PassesOwn.never rfl (pi_range1 rfl nb.range (pa_cons (pe_c c__law_next hr (by decide) rfl (pa_cons (pv 0) (pa_cons pe_int pa_nil))) pa_nil)) (pg_name (i := 3) sc__law_towered.nd rfl (Or.inl rfl))
    (pss_cons (ps_set (i := 4) sc__law_towered.nd rfl (Or.inl rfl) (pe_c c__law_next hr (by decide) rfl (pa_cons (pv 0) (pa_cons pe_int pa_nil))))
    (pss_one (ps_if (PW.pt (pw_and (pt_cmpR op_eq (pv 4) pe_int (nomark _)) (pw_and1 (pt_val (pv 2)))))
    (pss_one (ps_set (i := 1) sc__law_towered.nd rfl (Or.inl rfl) (pe_tup (pa_cons pe_str (pa_cons (pe_tup (pa_cons (pe_tup (pa_cons (pe_tup (pa_cons pe_int pa_nil)) (pa_cons (pv 1) pa_nil))) pa_nil)) pa_nil)))))
    (pss_one (ps_if (pt_cmpR op_eq (pv 4) pe_int (nomark _))
    (pss_one (ps_set (i := 1) sc__law_towered.nd rfl (Or.inl rfl) (pe_tup (pa_cons pe_str (pa_cons (pe_tup (pa_cons (pv 1) (pa_cons (pe_tup (pa_cons pe_str (pa_cons (pe_tup pa_nil) pa_nil))) pa_nil))) pa_nil)))))
    (pss_one (ps_set (i := 1) sc__law_towered.nd rfl (Or.inl rfl) (pe_tup (pa_cons pe_str (pa_cons (pe_tup (pa_cons (pv 1) pa_nil)) pa_nil))))))))))))
    pss_nil)
    (pss_one (ps_ret (pv 1)))), ?_⟩)
  obtain ⟨_, v, _, rfl, S, l, t, mp, rfl, rfl, L, tp, ok, h⟩ := h
  walk_at "rd"
  refine r_cut (fun σ H' => LB K S l H' ∧ Keep S H H' ∧ ∃ (v : V) (t' : Vl) (n : Nat) (y2 y3 : Option V), n ≤ 24 ∧ t'.gf n ∧ vsz t' ≤ vsz t + 40 ∧ Tp H' v t'.dat ∧ σ = [some (.ref S.a), some v, some (.bl mp), y2, y3]) ?_ ?_
  · walk_at "rd"
    refine b_next L (by decide) fun r1 H1 a1 b1 L1 k1 => ?_
    have tp := Tp.tk (keep_tk L.ls k1) _ _ tp
    walk_at "rd"
    refine r_ite (fun c => ?_) (fun c => ?_)
    · walk_at "rd"
      refine b_next L1 (by decide) fun r2 H2 a2 b2 L2 k2 => ?_
      have tp := Tp.tk (keep_tk L1.ls k2) _ _ tp
      have k2 := k1.trans k2
      walk_at "rd"
      refine r_turns (by omega) (by omega) (fun i σ H' => LB K S l H' ∧ Keep S H H' ∧ ∃ (v : V) (t' : Vl) (y2 y3 : Option V), i ≤ 20 ∧ t'.gf (4 + i) ∧ vsz t' ≤ vsz t + 2 * i ∧ Tp H' v t'.dat ∧ σ = [some (.ref S.a), some v, some (.bl mp), y2, y3]) ⟨L2, k2, v, t, _, _, Nat.zero_le _, ok, Nat.le_refl _, tp, rfl⟩ ?_ ?_
      · rintro i σ H3 hi ⟨L3, k3, v, t', y2, y3, hi2, ok3, sz3, tp3, rfl⟩
        walk_at "rd"
        refine b_next L3 (by decide) fun r4 H4 a4 b4 L4 k4 => ?_
        have tp4 := Tp.tk (keep_tk L3.ls k4) _ _ tp3
        have k4 := k3.trans k4
        walk_at "ri"
        refine r_ifB (decide (r4 = 0 ∧ mp = true)) (fun R hR => ?_) ?_
        · walk_at "rd"
          refine r_ite (fun c => ?_) (fun c => ?_)
          · have e : decide (r4 = 0 ∧ mp = true) = mp := by
              cases mp
              · exact decide_eq_false fun z => by cases z.2
              · exact decide_eq_true ⟨c, rfl⟩
            rw [e] at hR
            walk_at "rd"
            exact hR
          · rw [decide_eq_false (fun z => c z.1)] at hR
            exact hR
        refine r_ite (fun c => ?_) (fun c => ?_)
        · walk_at "rd"
          refine ⟨by show 1 ≤ sizeLine; decide, fun p5 n5 => ?_⟩
          obtain ⟨H5, e, L5, s5, g5⟩ := new_b (o := .tup [.int 97]) L4 n5
          rw [e]
          clear e
          walk_at "rd"
          refine ⟨by show 2 ≤ sizeLine; decide, fun p6 n6 => ?_⟩
          obtain ⟨H6, e, L6, s6, g6⟩ := new_b (o := .tup [.ref p5, v]) L5 n6
          rw [e]
          clear e
          walk_at "rd"
          refine ⟨by show 1 ≤ sizeLine; decide, fun p7 n7 => ?_⟩
          obtain ⟨H7, e, L7, s7, g7⟩ := new_b (o := .tup [.ref p6]) L6 n7
          rw [e]
          clear e
          walk_at "rd"
          refine ⟨by show 2 ≤ sizeLine; decide, fun p8 n8 => ?_⟩
          obtain ⟨H8, e, L8, s8, g8⟩ := new_b (o := .tup [.str "map", .ref p7]) L7 n8
          rw [e]
          clear e
          walk_at "rd"
          have sa := (s5.trans s6).trans (s7.trans s8)
          have tpv : Tp H8 v t'.dat := Tp.tk (Same.tk sa) _ _ tp4
          refine ⟨L8, k4.trans (Keep.of sa), .ref p8, .mp [([97], t')], _, _, by omega, ⟨by show 1 ≤ 49; decide, List.pairwise_singleton _ _, fun e he => ?_, ok3, trivial⟩, by show 1 + (1 + vsz t' + 0) ≤ _; omega, .tup g8 (.cons (.str _) (.cons (.tup (s8 _ _ g7) (.cons (.tup ((s7.trans s8) _ _ g6) (.cons (tp_kd ((s6.trans (s7.trans s8)) _ _ g5)) (.cons tpv .nil))) .nil)) .nil)), rfl⟩
          rw [List.mem_singleton.mp he]
          exact ⟨by show 1 ≤ 200; decide, fun p hp => by
            rw [List.mem_singleton.mp hp]
            exact ⟨by decide, by decide, .inl (by decide)⟩⟩
        walk_at "rd"
        refine r_ite (fun c => ?_) (fun c => ?_)
        · walk_at "rd"
          refine ⟨Nat.zero_le _, fun p5 n5 => ?_⟩
          obtain ⟨H5, e, L5, s5, g5⟩ := new_b (o := .tup []) L4 n5
          rw [e]
          clear e
          walk_at "rd"
          refine ⟨by show 2 ≤ sizeLine; decide, fun p6 n6 => ?_⟩
          obtain ⟨H6, e, L6, s6, g6⟩ := new_b (o := .tup [.str "list", .ref p5]) L5 n6
          rw [e]
          clear e
          walk_at "rd"
          refine ⟨by show 2 ≤ sizeLine; decide, fun p7 n7 => ?_⟩
          obtain ⟨H7, e, L7, s7, g7⟩ := new_b (o := .tup [v, .ref p6]) L6 n7
          rw [e]
          clear e
          walk_at "rd"
          refine ⟨by show 2 ≤ sizeLine; decide, fun p8 n8 => ?_⟩
          obtain ⟨H8, e, L8, s8, g8⟩ := new_b (o := .tup [.str "list", .ref p7]) L7 n8
          rw [e]
          clear e
          walk_at "rd"
          have sa := (s5.trans s6).trans (s7.trans s8)
          have tpv : Tp H8 v t'.dat := Tp.tk (Same.tk sa) _ _ tp4
          have okE : (Vl.ls []).gf (4 + i) := by
            rw [Nat.add_comm]
            exact ⟨Nat.zero_le _, trivial⟩
          exact ⟨L8, k4.trans (Keep.of sa), .ref p8, .ls [t', .ls []], _, _, by omega, ⟨by show 2 ≤ 49; decide, ok3, okE, trivial⟩, by show 1 + (vsz t' + (1 + 0 + 0)) ≤ _; omega, .tup g8 (.cons (.str _) (.cons (.tup (s8 _ _ g7) (.cons tpv (.cons (.tup ((s7.trans s8) _ _ g6) (.cons (.str _) (.cons (.tup ((s6.trans (s7.trans s8)) _ _ g5) .nil) .nil))) .nil))) .nil)), rfl⟩
        · walk_at "rd"
          refine ⟨by show 1 ≤ sizeLine; decide, fun p7 n7 => ?_⟩
          obtain ⟨H7, e, L7, s7, g7⟩ := new_b (o := .tup [v]) L4 n7
          rw [e]
          clear e
          walk_at "rd"
          refine ⟨by show 2 ≤ sizeLine; decide, fun p8 n8 => ?_⟩
          obtain ⟨H8, e, L8, s8, g8⟩ := new_b (o := .tup [.str "list", .ref p7]) L7 n8
          rw [e]
          clear e
          walk_at "rd"
          have sa := s7.trans s8
          have tpv : Tp H8 v t'.dat := Tp.tk (Same.tk sa) _ _ tp4
          exact ⟨L8, k4.trans (Keep.of sa), .ref p8, .ls [t'], _, _, by omega, ⟨by show 1 ≤ 49; decide, ok3, trivial⟩, by show 1 + (vsz t' + 0) ≤ _; omega, .tup g8 (.cons (.str _) (.cons (.tup (s8 _ _ g7) (.cons tpv .nil)) .nil)), rfl⟩
      · rintro σ H3 ⟨L3, k3, v, t', y2, y3, hi2, ok3, sz3, tp3, rfl⟩
        walk_at "rd"
        exact ⟨L3, k3, v, t', _, _, _, by omega, ok3, by omega, tp3, rfl⟩
    · walk_at "rd"
      exact ⟨L1, k1, v, t, 4, _, _, by decide, ok, by omega, tp, rfl⟩
  · rintro σ H3 ⟨L3, k3, v, t', n, y2, y3, hn, ok3, sz3, tp3, rfl⟩
    walk_at "rd"
    exact h v t' n _ hn ok3 sz3 tp3 L3 k3
theorem ok__law_mixed (F : FunD K "_law_mixed" "_law_mixed" (defArgs s__law_mixed) (defBody s__law_mixed) (defScope s__law_mixed) [] [] (glAd "_law_mixed" K) fd) (m : mg "_law_mixed" = some (.ref (glAd "_law_mixed" K))) (nb : Nm K mg) (c__law_next : Cal P w K mg base 1 "_law_next" (sp__law_next K) []) : Cal P w K mg base 2 "_law_mixed" (sp__law_mixed K) [] := by
  refine calD F m sc__law_mixed (fun _ _ _ _ _ _ us hl => match us, hl with | [_, _], _ => rfl) len2 (fun cdv A outer s H vs Q E hr h => ⟨_, (pss_cons (ps_set (i := 2) sc__law_mixed.nd rfl (Or.inl rfl) (pe_lstE pa_nil))
    (pss_cons (ps_for PassesOwn.never rfl (pi_tup (pv 1)) (pg_name (i := 3) sc__law_mixed.nd rfl (Or.inl rfl))
    (pss_one (ps_expr (pe_bm PySem.F.plainAttrs_list PySem.F.slot_list_insert PySem.F.type_list_insert mt_insert (pv 2) (pa_cons (pe_c c__law_next hr (by decide) rfl (pa_cons (pv 0) (pa_cons (pe_op op_add (pe_callB call_len_seq (by rfl) nb.len PySem.boot_len (pa_cons (pv 2) pa_nil)) pe_int) pa_nil))) (pa_cons (pv 3) pa_nil))))))
    (pss_one (ps_ret (pv 2))))), ?_⟩)
  obtain ⟨_, _, rfl, S, l, p, xs, rfl, rfl, hp, hl, L, h⟩ := h
  walk_at "rf"
  refine ⟨by show 0 ≤ sizeLine; decide, fun q H1 nq g1 s1 => ?_⟩
  have L1 := L.same s1
  have ne1 := L.ne_free nq
  walk_at "rf"
  refine ⟨p, rfl, ⟨xs, SqT.of (s1 _ _ hp)⟩, ?_⟩
  refine r_eachT (xs := xs) (fun i σ H' => LB K S l H' ∧ Keep S H H' ∧ ∃ (ys : List V) (y3 : Option V), ys.Perm (xs.take i) ∧ H' q = some (.lst ys) ∧ σ = [some (.ref S.a), some (.ref p), some (.ref q), y3]) ⟨L1, Keep.of s1, [], none, by simp, g1, rfl⟩ (fun i σ H' hh => by
    obtain ⟨_, k, _⟩ := hh
    exact SqT.of (keep_tk L.ls k _ _ hp)) ?_ ?_
  · rintro i x σ H2 hx ⟨L2, k2, ys, y3, pm, g2, rfl⟩
    have hi : i < xs.length := (List.getElem?_eq_some_iff.mp hx).1
    have yl : ys.length = i := by rw [pm.length_eq, List.length_take]; omega
    walk_at "rf"
    refine ⟨tyL g2, ?_⟩
    walk_at "rf"
    refine ⟨q, _, rfl, .inl (SqL.of g2), ?_⟩
    walk_at "rf"
    refine b_next L2 (by rw [yl]; omega) fun r H3 a3 b3 L3 k3 => ?_
    have g3 := k3 _ _ ne1 g2
    walk_at "rf"
    rw [yl] at b3
    refine ⟨q, ys, r, x, rfl, rfl, g3, small1000 (by omega), a3, by omega, ?_⟩
    have et : xs.take (i + 1) = xs.take i ++ [x] := by rw [List.take_succ, hx]; rfl
    refine ⟨L.away nq L3 _, keep_away (k2.trans k3) nq, ys.take r.toNat ++ [x] ++ ys.drop r.toNat, _, ?_, upd_same, rfl⟩
    rw [et, List.append_assoc]
    refine (List.perm_middle).trans ?_
    rw [show ys.take r.toNat ++ [].append (ys.drop r.toNat) = ys from List.take_append_drop _ _]
    exact (List.Perm.cons x pm).trans (List.perm_append_singleton x _).symm
  · rintro σ H2 ⟨L2, k2, ys, y3, pm, g2, rfl⟩
    rw [List.take_length] at pm
    walk_at "rf"
    exact h q ys H2 pm nq ne1 g2 L2 k2
end

/-! ### what bencode lacks, how many have begun -/




def lackK (k : Str) (r : List PyData) : Bool :=
  if k = "number" then (match r with
    | [.int _, .int e] => !(decide (0 ≤ e) && decide (e ≤ 800))
    | _ => false) else !(decide (k = "bytes") || decide (k = "list") || decide (k = "map"))
def NumK (k : Str) (r : List PyData) : Prop := k = "number" → ∃ m e : Int, r = [.int m, .int e]
def sp_is_lacking (K : Frg) : Sp := sp1 fun a H Q _ => ∃ (p : Addr) (k : Str) (xs : List V) (r : List PyData), a = .ref p ∧ H p = some (.tup (.str k :: xs)) ∧ TpAll H xs r ∧ NumK k r ∧ ∀ H', Same H H' → Q (.bl (lackK k r)) H'
def BgA (K : Frg) (H : Hp) (a : Addr) (m : Nat) : Prop := ∃ dx, H a = some (.ins (C_Begun K) dx (fs_Begun (.int (m : Nat))))
def Lacks (K : Frg) (o : List Addr) (H : Hp) (m : Nat) (E : XK) : Prop := ∀ d H', H' d = some (.xd [("what", .int (m : Nat))]) → Ch o H H' → E (.ref (C_Unwritable K)) (some d) H'
theorem lacked {K : Frg} {o o2 : List Addr} {H H1 : Hp} {m : Nat} {E : XK} (h : Lacks K o H m E) (c : Ch o2 H H1) (i : ∀ x ∈ o2, x ∈ o ∨ H x = none) : ∀ d, H1 d = none → E (.ref (C_Unwritable K)) (some d) (upd H1 d (.xd [("what", .int (m : Nat))])) := fun d nd =>
  h d _ upd_same fun x y hx hn => by
    have z := c.ch i Ch.refl x y hx hn
    rw [upd_ne (fun e => by rw [e, nd] at z; cases z)]
    exact z
theorem ev_lf {H : Hp} {v : V} {k : Str} {r : List PyData} (h : Tp H v (Ev.lf k r).dat) : ∃ p q xs, v = .ref p ∧ H p = some (.tup [.str "leaf", .ref q]) ∧ H q = some (.tup (.str k :: xs)) ∧ TpAll H xs r := by
  obtain ⟨p, ys, rfl, hp, hx⟩ := tp_tup h
  cases hx with
  | cons h1 h2 =>
    cases h1
    cases h2 with
    | cons h1 h2 =>
      cases h2
      obtain ⟨q, zs, rfl, hq, hz⟩ := tp_tup h1
      cases hz with
      | cons h1 h2 =>
        cases h1
        exact ⟨p, q, _, rfl, hp, hq, h2⟩
theorem ev_op {H : Hp} {v : V} {m : Bool} (h : Tp H v (Ev.op m).dat) : ∃ p, v = .ref p ∧ H p = some (.tup [.str "open", .str (kindOf_ m)]) := by
  obtain ⟨p, ys, rfl, hp, hx⟩ := tp_tup h
  cases hx with
  | cons h1 h2 =>
    cases h1
    cases h2 with
    | cons h1 h2 =>
      cases h1
      cases h2
      exact ⟨p, rfl, hp⟩
theorem ev_cl {H : Hp} {v : V} (h : Tp H v Ev.cl.dat) : ∃ p, v = .ref p ∧ H p = some (.tup [.str "close"]) := by
  obtain ⟨p, ys, rfl, hp, hx⟩ := tp_tup h
  cases hx with
  | cons h1 h2 =>
    cases h1
    cases h2
    exact ⟨p, rfl, hp⟩
theorem ev_ky {H : Hp} {v : V} {k : List Int} (h : Tp H v (Ev.ky k).dat) : ∃ p q, v = .ref p ∧ H p = some (.tup [.str "key", .ref q]) ∧ H q = some (.tup (k.map V.int)) := by
  obtain ⟨p, ys, rfl, hp, hx⟩ := tp_tup h
  cases hx with
  | cons h1 h2 =>
    cases h1
    cases h2 with
    | cons h1 h2 =>
      cases h2
      obtain ⟨q, rfl, hq⟩ := tp_kdB h1
      exact ⟨p, q, rfl, hp, hq⟩
theorem lackS {K : Frg} {o : List Addr} {H H1 : Hp} {m : Nat} {E : XK} (h : Lacks K o H m E) (s : Same H H1) : Lacks K o H1 m E := fun d H' hd c => h d H' hd ((Ch.same s Ch.refl).trans c)
def lackE : Ev → Bool
  | .lf k r => lackK k r
  | _ => false
def NumE : Ev → Prop
  | .lf k r => NumK k r
  | _ => True
def cntE : Ev → Nat
  | .op _ => 1
  | .lf _ _ => 1
  | _ => 0
theorem in_three (k a b c : Str) : inV (.str k) [.str a, .str b, .str c] = (decide (k = a) || (decide (k = b) || decide (k = c))) := by
  have e : ∀ a : Str, eqV (.str a) (.str k) = decide (k = a) := fun a => by
    show (a == k) = decide (k = a)
    by_cases c : k = a
    · rw [c, decide_eq_true rfl]
      simp
    · rw [decide_eq_false c]
      exact beq_eq_false_iff_ne.mpr fun z => c z.symm
  unfold inV
  rw [List.any_cons, List.any_cons, List.any_cons, List.any_nil, Bool.or_false, e, e, e]
theorem in_two (k a b : Str) : inV (.str k) [.str a, .str b] = (decide (k = a) || decide (k = b)) := by
  have e : ∀ a : Str, eqV (.str a) (.str k) = decide (k = a) := fun a => by
    show (a == k) = decide (k = a)
    by_cases c : k = a
    · rw [c, decide_eq_true rfl]
      simp
    · rw [decide_eq_false c]
      exact beq_eq_false_iff_ne.mpr fun z => c z.symm
  unfold inV
  rw [List.any_cons, List.any_cons, List.any_nil, Bool.or_false, e, e]
theorem lack_op (m : Bool) : lackK (kindOf_ m) [.tuple []] = false := by cases m <;> decide +kernel
theorem num_op (m : Bool) : NumK (kindOf_ m) [.tuple []] := fun z => by cases m <;> exact absurd z (by decide +kernel)
def sp_Begun_note (K : Frg) : Sp := sp3 fun p v g H Q E => ∃ (a : Addr) (b : V) (m : Nat) (e : Ev), p = .ref a ∧ v = b ∧ g = .ref (glAd "is_lacking" K) ∧ BgA K H a m ∧ Tp H b e.dat ∧ NumE e ∧ (lackE e = false → ∀ H', BgA K H' a (m + cntE e) → Ch [a] H H' → Q .non H') ∧ (lackE e = true → Lacks K [] H m E)
def sp_Begun___init__ (K : Frg) : Sp := sp1 fun p H Q _ => ∃ a dx, p = .ref a ∧ H a = some (.ins (C_Begun K) dx []) ∧ ∀ H', BgA K H' a 0 → Ch [a] H H' → Q .non H'
def sp_Begun__count (K : Frg) : Sp := sp3 fun p v g H Q E => ∃ (a b : Addr) (m : Nat) (k : Str) (xs : List V) (r : List PyData), p = .ref a ∧ v = .ref b ∧ g = .ref (glAd "is_lacking" K) ∧ BgA K H a m ∧ H b = some (.tup (.str k :: xs)) ∧ TpAll H xs r ∧ NumK k r ∧ (lackK k r = false → ∀ H', BgA K H' a (m + 1) → Ch [a] H H' → Q .non H') ∧ (lackK k r = true → Lacks K [] H m E)
section
variable {P : Program} {w : World} {K : PySem.W.Frag} {mg : Str → Option Value} {base : Heap} {f : Addr} {fd : FuncData}
theorem ok_is_lacking (F : FunD K "is_lacking" "is_lacking" (defArgs s_is_lacking) (defBody s_is_lacking) (defScope s_is_lacking) [] [] (glAd "is_lacking" K) fd) (m : mg "is_lacking" = some (.ref (glAd "is_lacking" K))) (nb : Nm K mg) : Cal P w K mg base 1 "is_lacking" (sp_is_lacking K) [] := by
  refine calD F m sc_is_lacking (fun _ _ _ _ _ _ us hl => match us, hl with | [_], _ => rfl) len1 (fun cdv A outer s H vs Q E hr h => ⟨_, (pss_cons (ps_if (pt_cmpR op_eq (pe_ix ix_tup (pv 0) pe_int (fun _ _ => rfl)) pe_str (nomark _))
    (pss_one (ps_ret (pe_not (pe_chain op_le op_le pe_int (pe_ix ix_tup (pv 0) pe_int (fun _ _ => rfl)) (pe_gc rfl nb.g_LARGEST_EXPONENT)))))
    pss_nil)
    (pss_one (ps_ret (pe_cmpR op_notIn_seq (pe_ix ix_tup (pv 0) pe_int (fun _ _ => rfl)) (pe_tupE (pa_cons pe_str (pa_cons pe_str (pa_cons pe_str pa_nil)))) rfl)))), ?_⟩)
  obtain ⟨_, rfl, p, k, xs, r, rfl, hp, hx, hn, h⟩ := h
  walk_at "rf"
  refine r_ixT (SqT.of hp) (atI_nat (j := 0) rfl) ?_
  walk_at "rf"
  by_cases c : k = "number"
  · obtain ⟨m, e, rfl⟩ := hn c
    obtain ⟨v1, v2, rfl⟩ : ∃ v1, ∃ v2 : Unit, xs = [.int m, .int e] := ⟨(), (), by
      cases hx with
      | cons h1 h2 =>
        cases h1
        cases h2 with
        | cons h1 h2 =>
          cases h1
          cases h2
          rfl⟩
    have el : lackK k [.int m, .int e] = !(decide (0 ≤ e) && decide (e ≤ 800)) := if_pos c
    rw [el] at h
    refine r_itep c ?_
    walk_at "rf"
    refine r_ixT (SqT.of hp) (atI_nat (j := 2) rfl) ?_
    walk_at "rf"
    have h := h H fun _ _ z => z
    refine r_ite (fun c1 => ?_) (fun c1 => ?_)
    · rw [decide_eq_true c1, Bool.true_and] at h
      walk_at "rf"
      exact h
    · rw [decide_eq_false c1, Bool.false_and] at h
      walk_at "rf"
      exact h
  · have el : lackK k r = !(decide (k = "bytes") || decide (k = "list") || decide (k = "map")) := if_neg c
    rw [el] at h
    refine r_iteN c ?_
    walk_at "rf"
    refine r_ixT (SqT.of hp) (atI_nat (j := 0) rfl) ?_
    walk_at "rf"
    refine ⟨by show 3 ≤ sizeLine; decide, fun q H2 n2 g2 s2 => ?_⟩
    refine ⟨q, _, rfl, .inr (SqT.of g2), rfl, rfl, ?_⟩
    rw [if_pos rfl, in_three, ← Bool.or_assoc]
    exact h H2 s2
theorem ok_Begun___init__ (F : FunD K "__init__" "Begun.__init__" (defArgs s_Begun___init__) (defBody s_Begun___init__) (defScope s_Begun___init__) [] [] (meAd "Begun" "__init__" K) fd) (nb : Nm K mg) : Mak P w K mg base 1 "Begun" (C_Begun K) (sp_Begun___init__ K) [] := by
  refine makD F nb.mk_Begun nb.g_Begun sc_Begun___init__ (fun _ _ _ _ _ _ us hl => match us, hl with | [_], _ => rfl) len1 (fun cdv A outer s H vs Q E hr h => ⟨_, (pss_one (ps_fld (pv 0) pe_int rfl)), ?_⟩)
  obtain ⟨_, rfl, a, dx, rfl, hA, h⟩ := h
  walk_at "rf"
  refine r_fsetE hA nb.cl_Begun nb.na_Begun__many (by decide) (in_Begun__many) fun H1 hA1 f1 => ?_
  have c3 : Ch [a] H H1 := by walk_at "ch"
  exact h H1 ⟨dx, hA1⟩ c3
theorem ok_Begun__count (F : FunD K "_count" "Begun._count" (defArgs s_Begun__count) (defBody s_Begun__count) (defScope s_Begun__count) [] [] (meAd "Begun" "_count" K) fd) (nb : Nm K mg) (c_is_lacking : Cal P w K mg base 1 "is_lacking" (sp_is_lacking K) []) (z_Unwritable : Raz P w K mg base "Unwritable" (C_Unwritable K) "what") : MetX P w K mg base 3 (C_Begun K) "_count" (sp_Begun__count K) := by
  refine metXD F nb.cl_Begun nb.me_Begun__count sc_Begun__count (fun _ _ _ _ _ _ us hl => match us, hl with | [_, _, _], _ => rfl) len3 (fun cdv A outer s H vs Q E hr h => ⟨_, (pss_cons (ps_if (pt_val (pe_cL (i := 2) c_is_lacking hr (by decide) (pa_cons (pv 1) pa_nil)))
    (pss_one (ps_raz z_Unwritable rfl hr (by decide) rfl (takes_of rfl rfl rfl rfl) (pe_fld (pv 0) rfl)))
    pss_nil)
    (pss_one (ps_fld (pv 0) (pe_op op_add (pe_fld (pv 0) rfl) pe_int) rfl))), ?_⟩)
  obtain ⟨_, _, _, rfl, a, b, m, k, xs, r, rfl, rfl, rfl, ⟨dx, hA⟩, hb, hx, hn, hq, he⟩ := h
  walk_at "rf"
  refine r_callN rfl nb.f_is_lacking ?_
  walk_at "rf"
  refine ⟨_, rfl, b, k, xs, r, rfl, hb, hx, hn, fun H1 s1 => ⟨_, rfl, ?_⟩⟩
  cases hk : lackK k r with
  | true =>
    walk_at "rf"
    exact lacked (o2 := []) (he hk) (Ch.same s1 Ch.refl) fun x hx => absurd hx (by simp)
  | false =>
    walk_at "rf"
    have hA1 := s1 _ _ hA
    walk_at "fs"
    intro H2 hA2 f2
    have k2 : Ch [a] H1 H2 := by walk_at "ch"
    exact hq hk H2 ⟨dx, hA2⟩ ((Ch.same s1 Ch.refl).trans k2)
theorem ok_Begun_note (F : FunD K "note" "Begun.note" (defArgs s_Begun_note) (defBody s_Begun_note) (defScope s_Begun_note) [] [] (meAd "Begun" "note" K) fd) (nb : Nm K mg) (m_Begun__count : MetX P w K mg base 3 (C_Begun K) "_count" (sp_Begun__count K)) : MetX P w K mg base 4 (C_Begun K) "note" (sp_Begun_note K) := by
  refine metXD F nb.cl_Begun nb.me_Begun_note sc_Begun_note (fun _ _ _ _ _ _ us hl => match us, hl with | [_, _, _], _ => rfl) len3 (fun cdv A outer s H vs Q E hr h => ⟨_, (pss_one (ps_if (pt_cmpR op_eq (pe_ix ix_tup (pv 1) pe_int (fun _ _ => rfl)) pe_str (nomark _))
    (pss_one (ps_expr (pe_mtX m_Begun__count hr (by decide) (takes_of rfl rfl rfl rfl) (pv 0) (pa_cons (pe_ix ix_tup (pv 1) pe_int (fun _ _ => rfl)) (pa_cons (pv 2) pa_nil)))))
    (pss_one (ps_if (pt_cmpR op_eq (pe_ix ix_tup (pv 1) pe_int (fun _ _ => rfl)) pe_str (nomark _))
    (pss_one (ps_expr (pe_mtX m_Begun__count hr (by decide) (takes_of rfl rfl rfl rfl) (pv 0) (pa_cons (pe_tupE (pa_cons (pe_ix ix_tup (pv 1) pe_int (fun _ _ => rfl)) (pa_cons (pe_tupE pa_nil) pa_nil))) (pa_cons (pv 2) pa_nil)))))
    pss_nil)))), ?_⟩)
  obtain ⟨_, _, _, rfl, a, b, m, e, rfl, rfl, rfl, bg, he, hn, hq, hl⟩ := h
  obtain ⟨dx, hA⟩ := id bg
  cases e with
  | lf k r =>
    obtain ⟨p, q, xs, rfl, hp, hq2, hx⟩ := ev_lf he
    walk_at "rf"
    refine r_ixT (SqT.of hp) (atI_nat (j := 0) rfl) ?_
    walk_at "rf"
    refine r_ite (fun _ => ?_) (fun c => absurd rfl c)
    walk_at "rf"
    refine r_ixT (SqT.of hp) (atI_nat (j := 1) rfl) ?_
    walk_at "rf"
    exact ⟨_, _, _, rfl, a, q, m, k, xs, r, rfl, rfl, rfl, bg, hq2, hx, hn, fun z H' b' c' => hq z H' b' c', fun z => hl z⟩
  | op mm =>
    obtain ⟨p, rfl, hp⟩ := ev_op he
    walk_at "rf"
    refine r_ixT (SqT.of hp) (atI_nat (j := 0) rfl) ?_
    walk_at "rf"
    refine r_iteN (show ¬ ("open" : Str) = "leaf" by decide +kernel) ?_
    walk_at "rf"
    refine r_ixT (SqT.of hp) (atI_nat (j := 0) rfl) ?_
    walk_at "rf"
    refine r_ite (fun _ => ?_) (fun c => absurd rfl c)
    walk_at "rf"
    refine r_ixT (SqT.of hp) (atI_nat (j := 1) rfl) ?_
    walk_at "rf"
    refine ⟨by show 0 ≤ sizeLine; decide, fun q1 H1 n1 g1 s1 => ?_⟩
    walk_at "rf"
    refine ⟨by show 2 ≤ sizeLine; decide, fun q2 H2 n2 g2 s2 => ?_⟩
    walk_at "rf"
    have s12 := s1.trans s2
    refine ⟨_, _, _, rfl, a, q2, m, kindOf_ mm, _, _, rfl, rfl, rfl, ⟨dx, s12 _ _ hA⟩, g2, .cons (.tup (s2 _ _ g1) .nil) .nil, num_op mm, fun z H' b' c' => hq rfl H' b' ((Ch.same s12 Ch.refl).trans c'), fun z => absurd ((lack_op mm).symm.trans z) (by decide)⟩
  | ky k =>
    obtain ⟨p, u, rfl, hp, _⟩ := ev_ky he
    walk_at "rf"
    refine r_ixT (SqT.of hp) (atI_nat (j := 0) rfl) ?_
    walk_at "rf"
    refine r_iteN (show ¬ ("key" : Str) = "leaf" by decide +kernel) ?_
    walk_at "rf"
    refine r_ixT (SqT.of hp) (atI_nat (j := 0) rfl) ?_
    walk_at "rf"
    refine r_iteN (show ¬ ("key" : Str) = "open" by decide +kernel) ?_
    walk_at "rf"
    exact hq rfl H bg Ch.refl
  | cl =>
    obtain ⟨p, rfl, hp⟩ := ev_cl he
    walk_at "rf"
    refine r_ixT (SqT.of hp) (atI_nat (j := 0) rfl) ?_
    walk_at "rf"
    refine r_iteN (show ¬ ("close" : Str) = "leaf" by decide +kernel) ?_
    walk_at "rf"
    refine r_ixT (SqT.of hp) (atI_nat (j := 0) rfl) ?_
    walk_at "rf"
    refine r_iteN (show ¬ ("close" : Str) = "open" by decide +kernel) ?_
    walk_at "rf"
    exact hq rfl H bg Ch.refl
end

/-! ### the octets of a leaf, of a key -/





/-- a new list with these numbers, all else kept -/
def Out (H : Hp) (xs : List Int) (Q : VK) : Prop := ∀ (p : Addr) (H' : Hp), H p = none → H' p = some (.lst (xs.map V.int)) → Same H H' → Q (.ref p) H'
theorem Out.same {H H1 : Hp} {xs : List Int} {Q : VK} (h : Out H xs Q) (s : Same H H1) : Out H1 xs Q := fun p H' n g s' => h p H' (s.free n) g (s.trans s')
/-- list + list -/
theorem r_catB {a b : Addr} {xs ys : List Int} {H : Hp} {Q : VK} (h1 : H a = some (.lst (xs.map V.int))) (h2 : H b = some (.lst (ys.map V.int))) (hl : xs.length + ys.length ≤ 16700000) (h : ∀ p H', H p = none → H' p = some (.lst ((xs ++ ys).map V.int)) → Same H H' → Q (.ref p) H') : rCat (.ref a) (.ref b) H Q :=
  ⟨a, b, _, _, rfl, rfl, h1, h2, Nat.le_trans (by rw [List.length_map, List.length_map]; exact hl) (by decide : 16700000 ≤ sizeLine), fun p hp => h p _ hp (by rw [upd_same, cat_ints]) (same_upd hp _)⟩
/-- a list of something for each sign of a text -/
theorem r_lcS {σ : St} {H : Hp} {Q : VK} {k : Nat} {g : TG} {te : TE} {vs : List Nat} {x : Str} (e : σ[k]? = some (some (.str x))) (Pv : Addr → Nat → Hp → Prop) (h0 : ∀ D, H D = none → Pv D 0 (upd H D (.lst [])))
    (hs : ∀ (D : Addr) (i c : Nat) (H' : Hp), H D = none → x.cps[i]? = some c → Pv D i H' → g (.str ⟨#[c]⟩) (wipe σ vs) H' fun σ2 H2 => wipe σ2 vs = wipe σ vs ∧ te σ2 H2 fun y H4 => ∃ acc, H4 D = some (.lst acc) ∧ acc.length < sizeLine ∧ Pv D (i + 1) (upd H4 D (.lst (acc ++ [y]))))
    (hd : ∀ (D : Addr) (H' : Hp), H D = none → Pv D x.cps.size H' → Q (.ref D) H') : tLc (iStr (tVar k)) g tYes te vs σ H Q := by
  refine ⟨_, e, x, rfl, fun D hD => ⟨fun i m H' => m + i = x.cps.size ∧ Pv D i H', ⟨x.cps.size, rfl, h0 D hD⟩, fun i m H' hW => ?_⟩⟩
  obtain ⟨hm, p⟩ := hW
  by_cases c : i < x.cps.size
  · refine .inr ⟨c, fun H' => Pv D (i + 1) H', fun H' q => ⟨m - 1, by omega, by omega, q⟩, ?_⟩
    rintro v _ ⟨rfl, cc, hc, rfl⟩
    exact hs D i cc _ hD hc p
  · have : i = x.cps.size := by omega
    subst this
    exact .inl ⟨Nat.le_refl _, hd D H' hD p⟩
theorem same_but {H H1 H2 : Hp} {q : Addr} (s : Same H H1) (nq : H q = none) (k : ∀ b, b ≠ q → H2 b = H1 b) : Same H H2 := fun b u z => by
  rw [k b (fun e => by rw [e, nq] at z; cases z)]
  exact s b u z
theorem S_at (x : List Nat) (i : Nat) : (S x).cps[i]? = x[i]? := by simp [S]
theorem S_size (x : List Nat) : (S x).cps.size = x.length := by simp [S]
theorem asc_len (x : List Nat) : (asc x).length = x.length := List.length_map ..
theorem small_asc {x : List Nat} (hx : x.length ≤ 10000) (i : Nat) : ((asc (x.take i)).map V.int).length < sizeLine := by
  rw [List.length_map, asc_len]
  exact Nat.lt_of_le_of_lt (Nat.le_trans (List.length_take_le' _ _) hx) (by decide)
theorem new_o {H : Hp} {p : Addr} {o : HO} (hp : H p = none) : ∃ H', upd H p o = H' ∧ Same H H' ∧ H' p = some o := ⟨_, rfl, same_upd hp o, upd_same⟩
def sp_in_ascii (K : Frg) : Sp := sp1 fun a H Q _ => ∃ x : List Nat, a = .str (S x) ∧ x.length ≤ 10000 ∧ Out H (asc x) Q
def sp_with_count (K : Frg) : Sp := sp1 fun a H Q _ => ∃ (p : Addr) (os : List Int), a = .ref p ∧ (SqL K H p (os.map V.int) ∨ SqT K H p (os.map V.int)) ∧ os.length ≤ 4000 ∧ Out H (strO os) Q
def sgnT (i : Int) : List Nat := if i < 0 then [45] else []
def sp_signed_digits (K : Frg) : Sp := sp1 fun a H Q _ => ∃ i : Int, a = .int i ∧ i.natAbs < 10 ^ 4000 ∧ ∀ H', Same H H' → Q (.str (S (sgnT i ++ dg i.natAbs))) H'
/-- the octets of a leaf that bencode has -/
def lfO (k : Str) (r : List PyData) : List Int := if k = "number" then (match r with
    | [.int m, .int e] => numO m e
    | _ => []) else match r with
    | [.tuple xs] => strO (xs.map fun d => match d with | .int i => i | _ => 0)
    | _ => []
theorem lfO_bytes (os : List Int) : lfO "bytes" [kd os] = strO os := by
  show (if ("bytes" : Str) = "number" then _ else _) = _
  rw [if_neg (by decide +kernel)]
  show strO ((os.map PyData.int).map fun d => match d with | .int i => i | _ => 0) = _
  rw [List.map_map, show ((fun d : PyData => match d with | .int i => i | _ => 0) ∘ PyData.int) = id from rfl, List.map_id]
theorem lfO_num (m e : Int) : lfO "number" [.int m, .int e] = numO m e := rfl
def sp_leaf_octets (K : Frg) : Sp := sp1 fun a H Q _ => ∃ (k : Str) (r : List PyData), Tp H a (.tuple (.str k :: r)) ∧ Lb k r ∧ Out H (lfO k r) Q
def sp_key_octets (K : Frg) : Sp := sp1 fun a H Q _ => ∃ (p : Addr) (ps : List Int), a = .ref p ∧ H p = some (.tup (ps.map V.int)) ∧ Kp ps ∧ Out H (strO (encs ps)) Q
/-- the digits of a number with zeros behind it -/
theorem dg_zeros {q : Nat} (k : Nat) (h : q ≠ 0) : dg (q * 10 ^ k) = dg q ++ List.replicate k 48 := by
  have e := dg_pad k q 0 (by omega) (Nat.pow_pos (by decide))
  rw [Nat.add_zero, pad_zero] at e
  exact e
theorem out_num {m e : Int} (nf : Nf m e) : asc ([105] ++ (sgnT (m * 10 ^ e.toNat) ++ dg (m * 10 ^ e.toNat).natAbs) ++ [101]) = numO m e := by
  have ea : ∀ x : List Nat, asc ([105] ++ x ++ [101]) = [105] ++ asc x ++ [101] := fun x => by
    unfold asc
    rw [List.map_append, List.map_append]
    rfl
  rw [ea]
  unfold numO
  have e2 : sgnT (m * 10 ^ e.toNat) ++ dg (m * 10 ^ e.toNat).natAbs = (if m < 0 then [45] else []) ++ dg m.natAbs ++ List.replicate e.toNat 48 := by
    by_cases c : m = 0
    · have e0 : e = 0 := by
        rcases nf with ⟨_, h⟩ | h
        · exact h
        · exact absurd (by rw [c]; rfl) h.1
      subst c e0
      show sgnT (0 * 10 ^ 0) ++ dg ((0 : Int) * 10 ^ 0).natAbs = _
      rfl
    · have hp : (0 : Int) < 10 ^ e.toNat := Int.pow_pos (by decide)
      have sg : m * 10 ^ e.toNat < 0 ↔ m < 0 := by
        constructor
        · intro h
          by_cases q : m < 0
          · exact q
          · exact absurd h (Int.not_lt.mpr (Int.mul_nonneg (by omega) (Int.le_of_lt hp)))
        · exact fun h => Int.mul_neg_of_neg_of_pos h hp
      have es : sgnT (m * 10 ^ e.toNat) = (if m < 0 then [45] else []) := by
        unfold sgnT
        by_cases q : m < 0
        · rw [if_pos (sg.mpr q), if_pos q]
        · rw [if_neg (fun z => q (sg.mp z)), if_neg q]
      rw [es, Int.natAbs_mul, natAbs10, dg_zeros _ (by omega), List.append_assoc]
  rw [e2]
section
variable {P : Program} {w : World} {K : PySem.W.Frag} {mg : Str → Option Value} {base : Heap} {f : Addr} {fd : FuncData}
theorem ok_in_ascii (F : FunD K "in_ascii" "in_ascii" (defArgs s_in_ascii) (defBody s_in_ascii) (defScope s_in_ascii) [] [] (glAd "in_ascii" K) fd) (m : mg "in_ascii" = some (.ref (glAd "in_ascii" K))) (nb : Nm K mg) : Cal P w K mg base 1 "in_ascii" (sp_in_ascii K) [] := by
  refine calD F m sc_in_ascii (fun _ _ _ _ _ _ us hl => match us, hl with | [_], _ => rfl) len1 (fun cdv A outer s H vs Q E hr h => ⟨_, (pss_one (ps_ret (pe_lc (own := [("character", 1)]) (g := gName 1) (tt := tYes) rfl sc_in_ascii.nd (pi_str (pv 0)) (blkOk_by (N := ["string", "character"]) (sc := defScope s_in_ascii) (by decide +kernel)) (fun _ _ _ _ _ => pg_name (i := 1) sc_in_ascii.nd rfl (Or.inl rfl)) (fun _ _ _ _ _ => pts_nil) (fun _ _ _ _ _ => (pe_callB call_ord (by rfl) nb.ord (by decide +kernel) (pa_cons (pv 1) pa_nil)))))), ?_⟩)
  obtain ⟨_, rfl, x, rfl, hx, h⟩ := h
  walk_at "rf"
  refine r_lcS (x := S x) rfl (fun D i H' => H' D = some (.lst ((asc (x.take i)).map V.int)) ∧ ∀ b u, b ≠ D → H b = some u → H' b = some u) (fun D hD => ⟨upd_same, fun b u n z => (upd_ne n).trans z⟩) ?_ ?_
  · rintro D i c H' hD hc ⟨g1, g2⟩
    walk_at "rf"
    refine ⟨rfl, ?_⟩
    walk_at "rf"
    have hx2 : x[i]? = some c := by
      have := hc
      rw [S_at] at this
      exact this
    refine ⟨_, rfl, rfl, _, g1, small_asc hx i, ?_, fun b u n z => (upd_ne n).trans (g2 b u n z)⟩
    rw [upd_same, List.take_succ, hx2]
    unfold asc
    rw [List.map_append, List.map_append]
    rfl
  · rintro D H' hD ⟨g1, g2⟩
    have e : x.take (S x).cps.size = x := List.take_of_length_le (Nat.le_of_eq (S_size x).symm)
    rw [e] at g1
    exact h D H' hD g1 fun b u z => g2 b u (fun e => by rw [e, hD] at z; cases z) z
theorem ok_with_count (F : FunD K "with_count" "with_count" (defArgs s_with_count) (defBody s_with_count) (defScope s_with_count) [] [] (glAd "with_count" K) fd) (m : mg "with_count" = some (.ref (glAd "with_count" K))) (nb : Nm K mg) (c_digits_of : Cal P w K mg base 1 "digits_of" (sp_digits_of K) []) (c_in_ascii : Cal P w K mg base 1 "in_ascii" (sp_in_ascii K) []) : Cal P w K mg base 2 "with_count" (sp_with_count K) [] := by
  refine calD F m sc_with_count (fun _ _ _ _ _ _ us hl => match us, hl with | [_], _ => rfl) len1 (fun cdv A outer s H vs Q E hr h => ⟨_, (pss_one (ps_ret (pe_op op_cat (pe_op op_cat (pe_c c_in_ascii hr (by decide) rfl (pa_cons (pe_c c_digits_of hr (by decide) rfl (pa_cons (pe_callB call_len_seq (by rfl) nb.len PySem.boot_len (pa_cons (pv 0) pa_nil)) pa_nil)) pa_nil)) (pe_lstE (pa_cons (pe_gc rfl nb.g_COLON) pa_nil))) (pe_callTy call_list_ofE (by rfl) nb.list (by decide +kernel) (pa_cons (pv 0) pa_nil))))), ?_⟩)
  obtain ⟨_, rfl, p, os, rfl, hp, hl, h⟩ := h
  walk_at "rf"
  refine ⟨p, _, rfl, hp, ?_⟩
  rw [List.length_map]
  walk_at "rf"
  have l4 : os.length < 10 ^ 4 := by omega
  refine ⟨_, rfl, os.length, rfl, Nat.lt_of_lt_of_le l4 (Nat.pow_le_pow_right (by decide) (by decide)), fun H1 s1 => ?_⟩
  walk_at "rf"
  have dl := dg_lenP l4
  refine ⟨_, rfl, _, rfl, by omega, fun q2 H2 n2 g2 s2 => ?_⟩
  walk_at "rf"
  refine ⟨by show 1 ≤ sizeLine; decide, fun q3 H3 n3 g3 s3 => ?_⟩
  have g3 : H3 q3 = some (.lst (([58] : List Int).map V.int)) := g3
  have al := asc_len (dg os.length)
  refine r_catB (s3 _ _ g2) g3 (by rw [al]; show _ + 1 ≤ _; omega) fun q4 H4 n4 g4 s4 => ?_
  walk_at "rf"
  have s14 := s1.trans (s2.trans (s3.trans s4))
  have fin : ∀ l H5, H4 l = none → H5 l = some (.lst (os.map V.int)) → Same H4 H5 → rCat (.ref q4) (.ref l) H5 Q := fun l H5 nl gl s5 => by
    refine r_catB (s5 _ _ g4) gl (by rw [List.length_append, al]; show _ + 1 + _ ≤ _; omega) fun q6 H6 n6 g6 s6 => ?_
    exact h q6 H6 ((s14.trans s5).free n6) g6 ((s14.trans s5).trans s6)
  rcases hp with hp | hp
  · exact r_toL (s14.seq hp) fin
  · exact r_toLt (same_tup s14 hp) fin
theorem ok_signed_digits (F : FunD K "signed_digits" "signed_digits" (defArgs s_signed_digits) (defBody s_signed_digits) (defScope s_signed_digits) [] [] (glAd "signed_digits" K) fd) (m : mg "signed_digits" = some (.ref (glAd "signed_digits" K))) (nb : Nm K mg) (c_digits_of : Cal P w K mg base 1 "digits_of" (sp_digits_of K) []) : Cal P w K mg base 2 "signed_digits" (sp_signed_digits K) [] := by
  refine calD F m sc_signed_digits (fun _ _ _ _ _ _ us hl => match us, hl with | [_], _ => rfl) len1 (fun cdv A outer s H vs Q E hr h => ⟨_, (pss_cons (ps_set (i := 1) sc_signed_digits.nd rfl (Or.inl rfl) (pe_ifExp (pt_cmpR op_lt (pv 0) pe_int (nomark _)) pe_str pe_str))
    (pss_one (ps_ret (pe_op op_add_str (pv 1) (pe_c c_digits_of hr (by decide) rfl (pa_cons (pe_callB call_abs (by rfl) nb.abs (by decide +kernel) (pa_cons (pv 0) pa_nil)) pa_nil)))))), ?_⟩)
  obtain ⟨_, rfl, i, rfl, hi, h⟩ := h
  walk_at "rf"
  by_cases c : i < 0
  · rw [if_pos (by rw [decide_eq_true c])]
    walk_at "rf"
    refine ⟨_, rfl, i.natAbs, congrArg V.int (by split <;> omega), hi, fun H1 s1 => ?_⟩
    have dl := lt4000 hi
    refine r_add (x := "-") (a := [45]) (b := dg i.natAbs) rfl rfl (by show 1 + _ ≤ _; omega) ?_
    rw [S_cat]
    have h := h H1 s1
    rw [show sgnT i = [45] from if_pos c] at h
    exact h
  · rw [if_neg (by rw [decide_eq_false c]; decide)]
    walk_at "rf"
    refine ⟨_, rfl, i.natAbs, congrArg V.int (by split <;> omega), hi, fun H1 s1 => ?_⟩
    have dl := lt4000 hi
    refine r_add (x := "") (a := []) (b := dg i.natAbs) rfl rfl (by show 0 + _ ≤ _; omega) ?_
    rw [S_cat]
    have h := h H1 s1
    rw [show sgnT i = [] from if_neg c] at h
    exact h
theorem ok_leaf_octets (F : FunD K "leaf_octets" "leaf_octets" (defArgs s_leaf_octets) (defBody s_leaf_octets) (defScope s_leaf_octets) [] [] (glAd "leaf_octets" K) fd) (m : mg "leaf_octets" = some (.ref (glAd "leaf_octets" K))) (nb : Nm K mg) (c_whole : Cal P w K mg base 2 "whole" sp_whole []) (c_signed_digits : Cal P w K mg base 2 "signed_digits" (sp_signed_digits K) []) (c_in_ascii : Cal P w K mg base 1 "in_ascii" (sp_in_ascii K) []) (c_with_count : Cal P w K mg base 2 "with_count" (sp_with_count K) []) : Cal P w K mg base 3 "leaf_octets" (sp_leaf_octets K) [] := by
  refine calD F m sc_leaf_octets (fun _ _ _ _ _ _ us hl => match us, hl with | [_], _ => rfl) len1 (fun cdv A outer s H vs Q E hr h => ⟨_, (pss_cons (ps_if (pt_cmpR op_eq (pe_ix ix_tup (pv 0) pe_int (fun _ _ => rfl)) pe_str (nomark _))
    (pss_cons (ps_set (i := 1) sc_leaf_octets.nd rfl (Or.inl rfl) (pe_c c_whole hr (by decide) rfl (pa_cons (pe_ix ix_tup (pv 0) pe_int (fun _ _ => rfl)) (pa_cons (pe_ix ix_tup (pv 0) pe_int (fun _ _ => rfl)) (pa_cons (pe_gc rfl nb.g_LARGEST_EXPONENT) pa_nil)))))
    (pss_one (ps_ret (pe_c c_in_ascii hr (by decide) rfl (pa_cons (pe_op op_add_str (pe_op op_add_str pe_str (pe_c c_signed_digits hr (by decide) rfl (pa_cons (pv 1) pa_nil))) pe_str) pa_nil)))))
    pss_nil)
    (pss_one (ps_ret (pe_c c_with_count hr (by decide) rfl (pa_cons (pe_ix ix_tup (pv 0) pe_int (fun _ _ => rfl)) pa_nil))))), ?_⟩)
  obtain ⟨_, rfl, k, r, tp, lb, h⟩ := h
  obtain ⟨a, ws, rfl, ha, hw⟩ := tp_lf (k := k) (r := r) tp
  cases lb with
  | number m e nf hm =>
    obtain rfl : ws = [.int m, .int e] := by
      cases hw with
      | cons h1 h2 =>
        cases h1
        cases h2 with
        | cons h1 h2 =>
          cases h1
          cases h2
          rfl
    walk_at "rf"
    refine r_ixT (SqT.of ha) (atI_nat (j := 0) rfl) ?_
    walk_at "rf"
    refine r_ite (fun _ => ?_) (fun c => absurd rfl c)
    walk_at "rf"
    refine r_ixT (SqT.of ha) (atI_nat (j := 1) rfl) ?_
    walk_at "rf"
    refine r_ixT (SqT.of ha) (atI_nat (j := 2) rfl) ?_
    walk_at "rf"
    obtain ⟨e0, e8⟩ : 0 ≤ e ∧ e ≤ 800 := by
      rcases nf with ⟨_, h⟩ | h
      · omega
      · omega
    refine ⟨_, _, _, rfl, m, e, 800, rfl, rfl, rfl, by decide, Nat.lt_of_lt_of_le hm (Nat.le_trans (Nat.pow_le_pow_left (by decide : 10 ≤ 2 ^ 4) 60) (by rw [← Nat.pow_mul]; exact Nat.pow_le_pow_right (by decide) (by decide))), fun _ => ?_, fun z => absurd ⟨e0, e8⟩ z⟩
    walk_at "rf"
    have big : (m * 10 ^ e.toNat).natAbs < 10 ^ 4000 := by
      rw [Int.natAbs_mul, natAbs10]
      refine Nat.lt_of_lt_of_le (Nat.mul_lt_mul_of_lt_of_le hm (pow10_le (a := e.toNat) (b := 800) (by omega)) (Nat.pow_pos (by decide))) ?_
      rw [← Nat.pow_add]
      exact pow10_le (by decide)
    refine ⟨_, rfl, m * 10 ^ e.toNat, rfl, big, fun H1 s1 => ?_⟩
    have dl := lt4000 big
    have sl : (sgnT (m * 10 ^ e.toNat)).length ≤ 1 := by
      unfold sgnT
      split <;> decide
    have hx := out_num nf
    generalize hT : sgnT (m * 10 ^ e.toNat) ++ dg (m * 10 ^ e.toNat).natAbs = T at hx
    have tl : T.length ≤ 4002 := by
      rw [← hT, List.length_append]
      omega
    refine r_add (x := "i") (a := [105]) (b := T) rfl rfl (by show 1 + _ ≤ _; omega) ?_
    rw [S_cat]
    walk_at "rf"
    refine r_add (y := "e") (a := [105] ++ T) (b := [101]) rfl rfl (by rw [List.length_append]; show 1 + _ + 1 ≤ _; omega) ?_
    rw [S_cat]
    walk_at "rf"
    rw [lfO_num, ← hx] at h
    exact ⟨_, rfl, _, rfl, by rw [List.length_append, List.length_append]; show 1 + _ + 1 ≤ _; omega, h.same s1⟩
  | bytes os hl =>
    obtain ⟨t0, rfl, ht⟩ : ∃ t0, ws = [.ref t0] ∧ H t0 = some (.tup (os.map V.int)) := by
      cases hw with
      | cons h1 h2 =>
        cases h2
        obtain ⟨t0, rfl, ht⟩ := tp_kdB h1
        exact ⟨t0, rfl, ht⟩
    walk_at "rf"
    refine r_ixT (SqT.of ha) (atI_nat (j := 0) rfl) ?_
    walk_at "rf"
    refine r_iteN (show ¬ ("bytes" : Str) = "number" by decide +kernel) ?_
    walk_at "rf"
    refine r_ixT (SqT.of ha) (atI_nat (j := 1) rfl) ?_
    walk_at "rf"
    rw [lfO_bytes] at h
    exact ⟨_, rfl, t0, os, rfl, .inr (SqT.of ht), by omega, h⟩
theorem ok_key_octets (F : FunD K "key_octets" "key_octets" (defArgs s_key_octets) (defBody s_key_octets) (defScope s_key_octets) [] [] (glAd "key_octets" K) fd) (m : mg "key_octets" = some (.ref (glAd "key_octets" K))) (nb : Nm K mg) (c_with_count : Cal P w K mg base 2 "with_count" (sp_with_count K) []) (c_encode : Cal P w K mg base 2 "encode" (sp_encode K) []) : Cal P w K mg base 3 "key_octets" (sp_key_octets K) [] := by
  refine calD F m sc_key_octets (fun _ _ _ _ _ _ us hl => match us, hl with | [_], _ => rfl) len1 (fun cdv A outer s H vs Q E hr h => ⟨_, (pss_one (ps_ret (pe_c c_with_count hr (by decide) rfl (pa_cons (pe_c c_encode hr (by decide) rfl (pa_cons (pv 0) pa_nil)) pa_nil)))), ?_⟩)
  obtain ⟨_, rfl, p, ps, rfl, hp, kp, h⟩ := h
  walk_at "rf"
  refine ⟨_, rfl, p, ps, rfl, .inr hp, kp.2, Nat.lt_of_le_of_lt (Nat.mul_le_mul_left 4 kp.1) (by decide), fun l H1 nl gl s1 => ?_⟩
  walk_at "rf"
  refine ⟨_, rfl, l, encs ps, rfl, .inl (SqL.of gl), by have := len_encs ps; have := kp.1; omega, fun q H2 n2 g2 s2 => ?_⟩
  exact h q H2 (s1.free n2) g2 (s1.trans s2)
end

/-! ### the loose writer of bencode, event by event -/


/-- the octets of an event -/
def bO : Ev → List Int
  | .op m => [if m = true then 100 else 108]
  | .ky k => strO (encs k)
  | .lf k r => lfO k r
  | .cl => [101]
/-- what the writer may be given -/
def EvB : Ev → Prop
  | .ky k => Kp k
  | .lf k r => Lb k r
  | _ => True
def BlA (K : Frg) (H : Hp) (a b : Addr) (m : Nat) : Prop := ∃ dx, H a = some (.ins (C_BencodeLoose K) dx (fs_BencodeLoose (.ref b))) ∧ BgA K H b m ∧ [a, b].Nodup
def sp_BencodeLoose___init__ (K : Frg) : Sp := sp1 fun p H Q _ => ∃ a dx, p = .ref a ∧ H a = some (.ins (C_BencodeLoose K) dx []) ∧ ∀ b H', H b = none → BlA K H' a b 0 → Ch [a] H H' → Q .non H'
def sp_BencodeLoose_take (K : Frg) : Sp := sp2 fun p v H Q E => ∃ (a b : Addr) (m : Nat) (e : Ev), p = .ref a ∧ BlA K H a b m ∧ Tp H v e.dat ∧ NumE e ∧ (lackE e = true → Lacks K [] H m E) ∧ (lackE e = false → EvB e ∧ ∀ (q : Addr) (H' : Hp), H q = none → H' q = some (.lst ((bO e).map V.int)) → BlA K H' a b (m + cntE e) → Ch [a, b] H H' → Q (.ref q) H')
theorem BgA.get {K : Frg} {H H' : Hp} {a : Addr} {m : Nat} {o : List Addr} (h : BgA K H a m) (c : Ch o H H') (n : a ∉ o) : BgA K H' a m := by
  obtain ⟨dx, h1⟩ := h
  exact ⟨dx, c.get n h1⟩
theorem _root_.L2.Same.bg {K : Frg} {H H' : Hp} {a : Addr} {m : Nat} (s : Same H H') (h : BgA K H a m) : BgA K H' a m := by
  obtain ⟨dx, h1⟩ := h
  exact ⟨dx, s _ _ h1⟩
theorem d_bg {K : Frg} {H : Hp} {R : Addr → Hp → Prop} {E : XK} (h : ∀ a H', H a = none → BgA K H' a 0 → Same H H' → R a H') : ∀ x dx, H x = none → H dx = none → dx ≠ x → sp_Begun___init__ K (.ref x :: ([] ++ [])) (upd (upd H dx (.own x)) x (.ins (C_Begun K) dx [])) (fun v H2 => v = .non ∧ R x H2) E := fun a dx ha hd hne =>
  ⟨_, rfl, a, dx, rfl, upd_same, fun H' hN c => ⟨rfl, h a H' ha hN (mk_same ha hd c)⟩⟩
section
variable {P : Program} {w : World} {K : PySem.W.Frag} {mg : Str → Option Value} {base : Heap} {f : Addr} {fd : FuncData}
theorem ok_BencodeLoose___init__ (F : FunD K "__init__" "BencodeLoose.__init__" (defArgs s_BencodeLoose___init__) (defBody s_BencodeLoose___init__) (defScope s_BencodeLoose___init__) [] [] (meAd "BencodeLoose" "__init__" K) fd) (nb : Nm K mg) (k_Begun : Mak P w K mg base 1 "Begun" (C_Begun K) (sp_Begun___init__ K) []) : Mak P w K mg base 3 "BencodeLoose" (C_BencodeLoose K) (sp_BencodeLoose___init__ K) [] := by
  refine makD F nb.mk_BencodeLoose nb.g_BencodeLoose sc_BencodeLoose___init__ (fun _ _ _ _ _ _ us hl => match us, hl with | [_], _ => rfl) len1 (fun cdv A outer s H vs Q E hr h => ⟨_, (pss_one (ps_fld (pv 0) (pe_mk0 k_Begun hr (by decide) rfl) rfl)), ?_⟩)
  obtain ⟨_, rfl, a, dx, rfl, hA, h⟩ := h
  walk_at "rf"
  refine d_bg fun b H1 nb1 hB s1 => ?_
  have ab : a ≠ b := Same.ne nb1 hA
  walk_at "rf"
  refine r_fsetE (s1 _ _ hA) nb.cl_BencodeLoose nb.na_BencodeLoose__begun (by decide) (in_BencodeLoose__begun) fun H2 hA2 f2 => ?_
  have c2 : Ch [a] H1 H2 := by walk_at "ch"
  exact h b H2 nb1 ⟨dx, hA2, hB.get c2 (by simp [Ne.symm ab]), by simp [ab]⟩ ((Ch.same s1 Ch.refl).trans c2)
theorem ok_BencodeLoose_take (F : FunD K "take" "BencodeLoose.take" (defArgs s_BencodeLoose_take) (defBody s_BencodeLoose_take) (defScope s_BencodeLoose_take) [] [] (meAd "BencodeLoose" "take" K) fd) (nb : Nm K mg) (c_leaf_octets : Cal P w K mg base 3 "leaf_octets" (sp_leaf_octets K) []) (c_key_octets : Cal P w K mg base 3 "key_octets" (sp_key_octets K) []) (m_Begun_note : MetX P w K mg base 4 (C_Begun K) "note" (sp_Begun_note K)) : MetX P w K mg base 5 (C_BencodeLoose K) "take" (sp_BencodeLoose_take K) := by
  refine metXD F nb.cl_BencodeLoose nb.me_BencodeLoose_take sc_BencodeLoose_take (fun _ _ _ _ _ _ us hl => match us, hl with | [_, _], _ => rfl) len2 (fun cdv A outer s H vs Q E hr h => ⟨_, (pss_cons (ps_expr (pe_mtX m_Begun_note hr (by decide) (takes_of rfl rfl rfl rfl) (pe_fld (pv 0) rfl) (pa_cons (pv 1) (pa_cons (pe_gc (v := .ref (glAd "is_lacking" K)) rfl ⟨_, nb.f_is_lacking, rfl⟩) pa_nil))))
    (pss_cons (ps_if (pt_cmpR op_eq (pe_ix ix_tup (pv 1) pe_int (fun _ _ => rfl)) pe_str (nomark _))
    (pss_one (ps_ret (pe_lstE (pa_cons (pe_ifExp (pt_cmpR op_eq (pe_ix ix_tup (pv 1) pe_int (fun _ _ => rfl)) pe_str (nomark _)) (pe_gc rfl nb.g_SMALL_D) (pe_gc rfl nb.g_SMALL_L)) pa_nil))))
    pss_nil)
    (pss_cons (ps_if (pt_cmpR op_eq (pe_ix ix_tup (pv 1) pe_int (fun _ _ => rfl)) pe_str (nomark _))
    (pss_one (ps_ret (pe_c c_key_octets hr (by decide) rfl (pa_cons (pe_ix ix_tup (pv 1) pe_int (fun _ _ => rfl)) pa_nil))))
    pss_nil)
    (pss_cons (ps_if (pt_cmpR op_eq (pe_ix ix_tup (pv 1) pe_int (fun _ _ => rfl)) pe_str (nomark _))
    (pss_one (ps_ret (pe_c c_leaf_octets hr (by decide) rfl (pa_cons (pe_ix ix_tup (pv 1) pe_int (fun _ _ => rfl)) pa_nil))))
    pss_nil)
    (pss_one (ps_ret (pe_lstE (pa_cons (pe_gc rfl nb.g_SMALL_E) pa_nil)))))))), ?_⟩)
  obtain ⟨_, _, rfl, a, b, m, e, rfl, hS, he, hn, hl, hq⟩ := h
  obtain ⟨dx, hA, hB, hN⟩ := id hS
  have hN' := hN
  simp only [List.nodup_cons, List.mem_cons, List.not_mem_nil, or_false, not_or] at hN
  obtain ⟨ab, _⟩ := hN
  obtain ⟨db, hB0⟩ := id hB
  walk_at "rf"
  refine ⟨_, _, _, rfl, b, _, m, e, rfl, rfl, rfl, hB, he, hn, fun z H1 hB1 k1 => ?_, fun z => hl z⟩
  obtain ⟨ok, hq⟩ := hq z
  have tp1 : Tp H1 _ e.dat := Tp.tk k1.tk _ _ he
  have hA1 := k1.get (by simp [ab]) hA
  have m1 : Ch [a, b] H H1 := k1.mono (by simp)
  have fin : ∀ (q : Addr) (H' : Hp), H1 q = none → H' q = some (.lst ((bO e).map V.int)) → Same H1 H' → Q (.ref q) H' := fun q H' nq gq s => by
    have qn : q ∉ [a, b] := fun z => by
      simp only [List.mem_cons, List.not_mem_nil, or_false] at z
      rcases z with e | e
      · rw [e, hA1] at nq; cases nq
      · obtain ⟨d1, h1⟩ := hB1
        rw [e, h1] at nq; cases nq
    exact hq q H' ((m1.fresh nq).resolve_left qn) gq ⟨dx, s _ _ hA1, s.bg hB1, hN'⟩ (Ch.same s m1)
  cases e with
  | op mm =>
    obtain ⟨p, rfl, hp⟩ := ev_op tp1
    walk_at "rf"
    refine r_ixT (SqT.of hp) (atI_nat (j := 0) rfl) ?_
    walk_at "rf"
    refine r_ite (fun _ => ?_) (fun c => absurd rfl c)
    walk_at "rf"
    refine r_ixT (SqT.of hp) (atI_nat (j := 1) rfl) ?_
    walk_at "rf"
    cases mm with
    | true =>
      refine r_itep (show kindOf_ true = "map" by decide +kernel) ?_
      walk_at "rf"
      exact ⟨by show 1 ≤ sizeLine; decide, fin⟩
    | false =>
      refine r_iteN (show ¬ kindOf_ false = "map" by decide +kernel) ?_
      walk_at "rf"
      exact ⟨by show 1 ≤ sizeLine; decide, fin⟩
  | ky k =>
    obtain ⟨p, q, rfl, hp, hq2⟩ := ev_ky tp1
    walk_at "rf"
    refine r_ixT (SqT.of hp) (atI_nat (j := 0) rfl) ?_
    walk_at "rf"
    refine r_iteN (show ¬ ("key" : Str) = "open" by decide +kernel) ?_
    walk_at "rf"
    refine r_ixT (SqT.of hp) (atI_nat (j := 0) rfl) ?_
    walk_at "rf"
    refine r_ite (fun _ => ?_) (fun c => absurd rfl c)
    walk_at "rf"
    refine r_ixT (SqT.of hp) (atI_nat (j := 1) rfl) ?_
    walk_at "rf"
    exact ⟨_, rfl, q, k, rfl, hq2, ok, fin⟩
  | lf k r =>
    obtain ⟨p, q, xs, rfl, hp, hq2, hx⟩ := ev_lf tp1
    walk_at "rf"
    refine r_ixT (SqT.of hp) (atI_nat (j := 0) rfl) ?_
    walk_at "rf"
    refine r_iteN (show ¬ ("leaf" : Str) = "open" by decide +kernel) ?_
    walk_at "rf"
    refine r_ixT (SqT.of hp) (atI_nat (j := 0) rfl) ?_
    walk_at "rf"
    refine r_iteN (show ¬ ("leaf" : Str) = "key" by decide +kernel) ?_
    walk_at "rf"
    refine r_ixT (SqT.of hp) (atI_nat (j := 0) rfl) ?_
    walk_at "rf"
    refine r_ite (fun _ => ?_) (fun c => absurd rfl c)
    walk_at "rf"
    refine r_ixT (SqT.of hp) (atI_nat (j := 1) rfl) ?_
    walk_at "rf"
    exact ⟨_, rfl, k, r, .tup hq2 (.cons (.str _) hx), ok, fin⟩
  | cl =>
    obtain ⟨p, rfl, hp⟩ := ev_cl tp1
    walk_at "rf"
    refine r_ixT (SqT.of hp) (atI_nat (j := 0) rfl) ?_
    walk_at "rf"
    refine r_iteN (show ¬ ("close" : Str) = "open" by decide +kernel) ?_
    walk_at "rf"
    refine r_ixT (SqT.of hp) (atI_nat (j := 0) rfl) ?_
    walk_at "rf"
    refine r_iteN (show ¬ ("close" : Str) = "key" by decide +kernel) ?_
    walk_at "rf"
    refine r_ixT (SqT.of hp) (atI_nat (j := 0) rfl) ?_
    walk_at "rf"
    refine r_iteN (show ¬ ("close" : Str) = "leaf" by decide +kernel) ?_
    walk_at "rf"
    exact ⟨by show 1 ≤ sizeLine; decide, fin⟩
end

/-! ### the law's own writing -/




def sp__law_ascii (K : Frg) : Sp := sp1 fun a H Q _ => ∃ x : List Nat, a = .str (S x) ∧ x.length ≤ 10000 ∧ Out H (asc x) Q
def sp__law_utf8 (K : Frg) : Sp := sp1 fun a H Q _ => ∃ (p : Addr) (ps : List Int), a = .ref p ∧ H p = some (.tup (ps.map V.int)) ∧ ps.length ≤ 200 ∧ Out H (encs ps) Q
def sp__law_string (K : Frg) : Sp := sp1 fun a H Q _ => ∃ (p : Addr) (os : List Int), a = .ref p ∧ (SqL K H p (os.map V.int) ∨ SqT K H p (os.map V.int)) ∧ os.length ≤ 4000 ∧ Out H (strO os) Q
def leafO (k : Str) (r : List PyData) (os : List Int) : Prop := Tks (.lf k r) [(os, .lf k r)] ∧ os.length ≤ 2000
def sp__law_leaf_written (K : Frg) : Sp := sp1 fun a H Q _ => ∃ k r, Tp H a (.tuple (.str k :: r)) ∧ Lb k r ∧ ∀ os, leafO k r os → Out H os Q
theorem out_new {H : Hp} {xs : List Int} {Q : VK} (h : Out H xs Q) {p : Addr} (hp : H p = none) : Q (.ref p) (upd H p (.lst (xs.map V.int))) := h p _ hp upd_same (same_upd hp _)
def sgn (m : Int) : List Nat := if m < 0 then [45] else []
def sdg (m : Int) : List Nat := sgn m ++ dg m.natAbs
theorem str_sdg : ∀ m : Int, Str.ofString (toString m) = S (sdg m)
  | .ofNat n => by
    have e : sdg (.ofNat n) = dg n := by
      unfold sdg sgn
      have c : ¬ Int.ofNat n < 0 := Int.not_lt.mpr (Int.natCast_nonneg n)
      rw [if_neg c]
      rfl
    rw [e]
    exact str_dg n
  | .negSucc n => by
    have e : sdg (.negSucc n) = [45] ++ dg (n + 1) := by
      unfold sdg sgn
      rw [if_pos (Int.negSucc_lt_zero n)]
      rfl
    rw [e]
    refine (S_tl _).symm.trans (congrArg S ?_)
    rw [PyProof.Rows.signs_ofString]
    show (("-" ++ Nat.repr (n + 1)).toList.map Char.toNat) = _
    rw [String.toList_append, List.map_append, Nat.toList_repr]
    rfl
theorem sdg_len {m : Int} {k : Nat} (h : m.natAbs < 10 ^ k) : (sdg m).length ≤ k + 2 := by
  have a := dg_lenP h
  have b : (sgn m).length ≤ 1 := by
    unfold sgn
    split <;> simp
  unfold sdg
  rw [List.length_append]
  omega
section
variable {P : Program} {w : World} {K : PySem.W.Frag} {mg : Str → Option Value} {base : Heap} {f : Addr} {fd : FuncData}
theorem ok__law_ascii (F : FunD K "_law_ascii" "_law_ascii" (defArgs s__law_ascii) (defBody s__law_ascii) (defScope s__law_ascii) [] [] (glAd "_law_ascii" K) fd) (m : mg "_law_ascii" = some (.ref (glAd "_law_ascii" K))) (nb : Nm K mg) : Cal P w K mg base 1 "_law_ascii" (sp__law_ascii K) [] := by
  refine calD F m sc__law_ascii (fun _ _ _ _ _ _ us hl => match us, hl with | [_], _ => rfl) len1 (fun cdv A outer s H vs Q E hr h => ⟨_, (pss_one (ps_ret (pe_lc (own := [("char", 1)]) (g := gName 1) (tt := tYes) rfl sc__law_ascii.nd (pi_str (pv 0)) (blkOk_by (N := ["text", "char"]) (sc := defScope s__law_ascii) (by decide +kernel)) (fun _ _ _ _ _ => pg_name (i := 1) sc__law_ascii.nd rfl (Or.inl rfl)) (fun _ _ _ _ _ => pts_nil) (fun _ _ _ _ _ => (pe_callB call_ord (by rfl) nb.ord (by decide +kernel) (pa_cons (pv 1) pa_nil)))))), ?_⟩)
  obtain ⟨_, rfl, x, rfl, hx, h⟩ := h
  walk_at "rd"
  refine r_lcS (x := S x) rfl (fun D i H' => H' D = some (.lst ((asc (x.take i)).map V.int)) ∧ ∀ b u, b ≠ D → H b = some u → H' b = some u) (fun D hD => ⟨upd_same, fun b u n z => (upd_ne n).trans z⟩) ?_ ?_
  · rintro D i c H' hD hc ⟨g1, g2⟩
    walk_at "rd"
    refine ⟨rfl, ?_⟩
    walk_at "rd"
    have hx2 : x[i]? = some c := by
      have := hc
      rw [S_at] at this
      exact this
    refine ⟨_, rfl, rfl, _, g1, small_asc hx i, ?_, fun b u n z => (upd_ne n).trans (g2 b u n z)⟩
    rw [upd_same, List.take_succ, hx2]
    unfold asc
    rw [List.map_append, List.map_append]
    rfl
  · rintro D H' hD ⟨g1, g2⟩
    have e : x.take (S x).cps.size = x := List.take_of_length_le (Nat.le_of_eq (S_size x).symm)
    rw [e] at g1
    exact h D H' hD g1 fun b u z => g2 b u (fun e => by rw [e, hD] at z; cases z) z
theorem ok__law_utf8 (F : FunD K "_law_utf8" "_law_utf8" (defArgs s__law_utf8) (defBody s__law_utf8) (defScope s__law_utf8) [] [] (glAd "_law_utf8" K) fd) (m : mg "_law_utf8" = some (.ref (glAd "_law_utf8" K))) (nb : Nm K mg) : Cal P w K mg base 1 "_law_utf8" (sp__law_utf8 K) [] := by
  refine calD F m sc__law_utf8 (fun _ _ _ _ _ _ us hl => match us, hl with | [_], _ => rfl) len1 (fun cdv A outer s H vs Q E hr h => ⟨_, (pss_cons (ps_set (i := 1) sc__law_utf8.nd rfl (Or.inl rfl) (pe_lst pa_nil))
    (pss_cons (ps_for PassesOwn.never rfl (pi_tup (pv 0)) (pg_name (i := 2) sc__law_utf8.nd rfl (Or.inl rfl))
    (pss_one (ps_if (pt_cmpR op_lt (pv 2) pe_int (nomark _))
    (pss_one (ps_expr (pe_bm PySem.F.plainAttrs_list PySem.F.slot_list_append PySem.F.type_list_append mt_append (pv 1) (pa_cons (pv 2) pa_nil))))
    (pss_one (ps_if (pt_cmpR op_lt (pv 2) pe_int (nomark _))
    (pss_one (ps_set (i := 1) sc__law_utf8.nd rfl (Or.inl rfl) (pe_op op_cat (pv 1) (pe_lst (pa_cons (pe_op op_add pe_int (pe_op op_fdiv (pv 2) pe_int)) (pa_cons (pe_op op_add pe_int (pe_op op_mod (pe_callTy call_int1 (by rfl) nb.int (by decide +kernel) (pa_cons (pv 2) pa_nil)) pe_int)) pa_nil))))))
    (pss_one (ps_if (pt_cmpR op_lt (pv 2) pe_int (nomark _))
    (pss_one (ps_set (i := 1) sc__law_utf8.nd rfl (Or.inl rfl) (pe_op op_cat (pv 1) (pe_lst (pa_cons (pe_op op_add pe_int (pe_op op_fdiv (pv 2) pe_int)) (pa_cons (pe_op op_add pe_int (pe_op op_mod (pe_callTy call_int1 (by rfl) nb.int (by decide +kernel) (pa_cons (pe_op op_fdiv (pv 2) pe_int) pa_nil)) pe_int)) (pa_cons (pe_op op_add pe_int (pe_op op_mod (pe_callTy call_int1 (by rfl) nb.int (by decide +kernel) (pa_cons (pv 2) pa_nil)) pe_int)) pa_nil)))))))
    (pss_one (ps_set (i := 1) sc__law_utf8.nd rfl (Or.inl rfl) (pe_op op_cat (pv 1) (pe_lst (pa_cons (pe_op op_add pe_int (pe_op op_fdiv (pv 2) pe_int)) (pa_cons (pe_op op_add pe_int (pe_op op_mod (pe_callTy call_int1 (by rfl) nb.int (by decide +kernel) (pa_cons (pe_op op_fdiv (pv 2) pe_int) pa_nil)) pe_int)) (pa_cons (pe_op op_add pe_int (pe_op op_mod (pe_callTy call_int1 (by rfl) nb.int (by decide +kernel) (pa_cons (pe_op op_fdiv (pv 2) pe_int) pa_nil)) pe_int)) (pa_cons (pe_op op_add pe_int (pe_op op_mod (pe_callTy call_int1 (by rfl) nb.int (by decide +kernel) (pa_cons (pv 2) pa_nil)) pe_int)) pa_nil)))))))))))))))
    (pss_one (ps_ret (pv 1))))), ?_⟩)
  obtain ⟨_, rfl, a, ps, rfl, ha, hp, h⟩ := h
  walk_at "rd"
  refine ⟨Nat.zero_le _, fun q nq => ?_⟩
  obtain ⟨H1, e, s1, g1⟩ := new_o (o := .lst []) nq
  rw [e]
  clear e
  walk_at "rd"
  refine ⟨a, rfl, ⟨_, SqT.of (s1 _ _ ha)⟩, ?_⟩
  refine r_eachT (xs := ps.map V.int) (fun i σ H' => Same H H' ∧ ∃ (q : Addr) (y : Option V), H q = none ∧ H' q = some (.lst ((encs (ps.take i)).map V.int)) ∧ σ = [some (.ref a), some (.ref q), y]) ⟨s1, q, none, nq, g1, rfl⟩ (fun i σ H' p => SqT.of (p.1 _ _ ha)) ?_ ?_
  · rintro i x σ H2 hx ⟨s2, q, y, nq, g2, rfl⟩
    obtain ⟨c, hc, rfl, et⟩ := ints_get hx
    have hi : i < ps.length := (List.getElem?_eq_some_iff.mp hc).1
    have hl : (encs (ps.take i)).length ≤ 800 := by
      have h1 := len_encs (ps.take i)
      have h2 : (ps.take i).length ≤ ps.length := List.length_take_le' _ _
      have h3 := hp
      omega
    have step : ∀ r : List Int, enc1 c = r → ∀ (q2 : Addr) (H3 : Hp), H2 q2 = none → H3 q2 = some (.lst ((encs (ps.take i) ++ r).map V.int)) → Same H2 H3 → Same H H3 ∧ ∃ (q : Addr) (y : Option V), H q = none ∧ H3 q = some (.lst ((encs (ps.take (i + 1))).map V.int)) ∧ [some (V.ref a), some (.ref q2), some (.int c)] = [some (.ref a), some (.ref q), y] := fun r er q2 H3 n2 g3 s3 => ⟨s2.trans s3, q2, _, s2.free n2, by rw [g3, et]; rw [encs_snoc, er], rfl⟩
    walk_at "rd"
    refine r_ite (fun c1 => ?_) (fun c1 => ?_)
    · walk_at "rd"
      refine ⟨tyL g2, ?_⟩
      walk_at "rd"
      refine r_appK g2 (small4k (by rw [List.length_map]; omega)) fun H5 hL5 f5 => ?_
      refine ⟨same_but s2 nq f5, q, _, nq, ?_, rfl⟩
      rw [hL5, map_snoc, et]
      rw [encs_snoc, enc_low c1]
    walk_at "rd"
    refine r_ite (fun c2 => ?_) (fun c2 => ?_)
    · have er : enc1 c = [192 + c / 64, 128 + c % 64] := (if_neg c1).trans (if_pos c2)
      walk_at "rd"
      refine ⟨by show 2 ≤ sizeLine; decide, fun q2 n2 => ?_⟩
      obtain ⟨H3, e, s3, g3⟩ := new_o (o := .lst ([192 + c / 64, 128 + c % 64].map V.int)) n2
      rw [show (HO.lst [V.int (192 + c / 64), V.int (128 + c % 64)]) = .lst ([192 + c / 64, 128 + c % 64].map V.int) from rfl, e]
      clear e
      walk_at "rd"
      refine r_catB (s3 _ _ g2) g3 (by show _ + 2 ≤ _; omega) fun p3 H4 n4 g4 s4 => ?_
      exact step _ er p3 H4 (s3.free n4) g4 (s3.trans s4)
    walk_at "rd"
    refine r_ite (fun c3 => ?_) (fun c3 => ?_)
    · have er : enc1 c = [224 + c / 4096, 128 + c / 64 % 64, 128 + c % 64] := (if_neg c1).trans ((if_neg c2).trans (if_pos c3))
      walk_at "rd"
      refine ⟨by show 3 ≤ sizeLine; decide, fun q2 n2 => ?_⟩
      obtain ⟨H3, e, s3, g3⟩ := new_o (o := .lst ([224 + c / 4096, 128 + c / 64 % 64, 128 + c % 64].map V.int)) n2
      rw [show (HO.lst [V.int (224 + c / 4096), V.int (128 + c / 64 % 64), V.int (128 + c % 64)]) = .lst ([224 + c / 4096, 128 + c / 64 % 64, 128 + c % 64].map V.int) from rfl, e]
      clear e
      walk_at "rd"
      refine r_catB (s3 _ _ g2) g3 (by show _ + 3 ≤ _; omega) fun p3 H4 n4 g4 s4 => ?_
      exact step _ er p3 H4 (s3.free n4) g4 (s3.trans s4)
    · have er : enc1 c = [240 + c / 262144, 128 + c / 4096 % 64, 128 + c / 64 % 64, 128 + c % 64] := (if_neg c1).trans ((if_neg c2).trans (if_neg c3))
      walk_at "rd"
      refine ⟨by show 4 ≤ sizeLine; decide, fun q2 n2 => ?_⟩
      obtain ⟨H3, e, s3, g3⟩ := new_o (o := .lst ([240 + c / 262144, 128 + c / 4096 % 64, 128 + c / 64 % 64, 128 + c % 64].map V.int)) n2
      rw [show (HO.lst [V.int (240 + c / 262144), V.int (128 + c / 4096 % 64), V.int (128 + c / 64 % 64), V.int (128 + c % 64)]) = .lst ([240 + c / 262144, 128 + c / 4096 % 64, 128 + c / 64 % 64, 128 + c % 64].map V.int) from rfl, e]
      clear e
      walk_at "rd"
      refine r_catB (s3 _ _ g2) g3 (by show _ + 4 ≤ _; omega) fun p3 H4 n4 g4 s4 => ?_
      exact step _ er p3 H4 (s3.free n4) g4 (s3.trans s4)
  · rintro σ H2 ⟨s2, q, y, nq, g2, rfl⟩
    rw [List.length_map, List.take_length] at g2
    walk_at "rd"
    exact h q H2 nq g2 s2
theorem ok__law_string (F : FunD K "_law_string" "_law_string" (defArgs s__law_string) (defBody s__law_string) (defScope s__law_string) [] [] (glAd "_law_string" K) fd) (m : mg "_law_string" = some (.ref (glAd "_law_string" K))) (nb : Nm K mg) (c__law_ascii : Cal P w K mg base 1 "_law_ascii" (sp__law_ascii K) []) : Cal P w K mg base 2 "_law_string" (sp__law_string K) [] := by
  refine calD F m sc__law_string (fun _ _ _ _ _ _ us hl => match us, hl with | [_], _ => rfl) len1 (fun cdv A outer s H vs Q E hr h => ⟨_, (pss_one (ps_ret (pe_op op_cat (pe_op op_cat (pe_c c__law_ascii hr (by decide) rfl (pa_cons (pe_callTy (call_strW rfl nb.dig) (by rfl) nb.str (by decide +kernel) (pa_cons (pe_callB call_len_seq (by rfl) nb.len PySem.boot_len (pa_cons (pv 0) pa_nil)) pa_nil)) pa_nil)) (pe_lstE (pa_cons pe_int pa_nil))) (pe_callTy call_list_ofE (by rfl) nb.list (by decide +kernel) (pa_cons (pv 0) pa_nil))))), ?_⟩)
  obtain ⟨_, rfl, p, os, rfl, hp, hl, h⟩ := h
  walk_at "rf"
  refine ⟨p, _, rfl, hp, ?_⟩
  rw [List.length_map]
  walk_at "rf"
  refine ⟨Nat.lt_of_le_of_lt hl (Nat.lt_of_lt_of_le (by decide : 4000 < 10 ^ 4) (Nat.pow_le_pow_right (by decide) (by decide))), ?_⟩
  rw [str_dg]
  walk_at "rf"
  have dl : (dg os.length).length ≤ 5 := dg_lenP (Nat.lt_of_le_of_lt hl (by decide : 4000 < 10 ^ 4))
  refine ⟨_, rfl, dg os.length, rfl, by omega, fun q1 H1 n1 g1 s1 => ?_⟩
  walk_at "rf"
  refine ⟨by show 1 ≤ sizeLine; decide, fun q2 H2 n2 g2 s2 => ?_⟩
  have g2 : H2 q2 = some (.lst (([58] : List Int).map V.int)) := g2
  walk_at "rf"
  refine r_catB (s2 _ _ g1) g2 (by rw [asc_len]; show _ + 1 ≤ _; omega) fun q3 H3 n3 g3 s3 => ?_
  walk_at "rf"
  have s13 := (s1.trans s2).trans s3
  refine ⟨p, _, rfl, same_seq s13 hp, fun q4 H4 n4 g4 s4 => ?_⟩
  refine r_catB (s4 _ _ g3) g4 (by rw [List.length_append, asc_len]; show _ + 1 + _ ≤ _; omega) fun q5 H5 n5 g5 s5 => ?_
  exact h q5 H5 ((s13.trans s4).free n5) g5 ((s13.trans s4).trans s5)
theorem ok__law_leaf_written (F : FunD K "_law_leaf_written" "_law_leaf_written" (defArgs s__law_leaf_written) (defBody s__law_leaf_written) (defScope s__law_leaf_written) [] [] (glAd "_law_leaf_written" K) fd) (m : mg "_law_leaf_written" = some (.ref (glAd "_law_leaf_written" K))) (nb : Nm K mg) (c__law_ascii : Cal P w K mg base 1 "_law_ascii" (sp__law_ascii K) []) (c__law_string : Cal P w K mg base 2 "_law_string" (sp__law_string K) []) : Cal P w K mg base 3 "_law_leaf_written" (sp__law_leaf_written K) [] := by
  refine calD F m sc__law_leaf_written (fun _ _ _ _ _ _ us hl => match us, hl with | [_], _ => rfl) len1 (fun cdv A outer s H vs Q E hr h => ⟨_, (pss_cons (ps_if (pt_cmpR op_eq (pe_ix ix_tup (pv 0) pe_int (fun _ _ => rfl)) pe_str (nomark _))
    (pss_one (ps_ret (pe_op op_cat (pe_op op_cat (pe_lstE (pa_cons pe_int pa_nil)) (pe_c c__law_ascii hr (by decide) rfl (pa_cons (pe_op op_add_str (pe_callTy (call_strW rfl nb.dig) (by rfl) nb.str (by decide +kernel) (pa_cons (pe_ix ix_tup (pv 0) pe_int (fun _ _ => rfl)) pa_nil)) (pe_op op_repS pe_str (pe_ix ix_tup (pv 0) pe_int (fun _ _ => rfl)))) pa_nil))) (pe_lstE (pa_cons pe_int pa_nil)))))
    pss_nil)
    (pss_one (ps_ret (pe_c c__law_string hr (by decide) rfl (pa_cons (pe_ix ix_tup (pv 0) pe_int (fun _ _ => rfl)) pa_nil))))), ?_⟩)
  obtain ⟨_, rfl, k, r, tp, lb, h⟩ := h
  obtain ⟨a, xs, rfl, ha, hx⟩ := tp_tup tp
  cases lb with
  | number m e nf hm =>
    cases hx with
    | cons h1 h2 =>
    cases h1
    cases h2 with
    | cons h1 h2 =>
    cases h1
    cases h2 with
    | cons h1 h2 =>
    cases h1
    cases h2
    have he : 0 ≤ e ∧ e ≤ 800 := by
      rcases nf with ⟨_, q⟩ | q
      · omega
      · exact q.2
    walk_at "rf"
    refine r_ixT (SqT.of ha) (atI_nat (j := 0) rfl) ?_
    walk_at "rf"
    refine r_ite (fun _ => ?_) (fun c => absurd rfl c)
    walk_at "rf"
    refine ⟨by show 1 ≤ sizeLine; decide, fun q1 H1 n1 g1 s1 => ?_⟩
    have g1 : H1 q1 = some (.lst (([105] : List Int).map V.int)) := g1
    walk_at "rf"
    refine r_ixT (SqT.of (s1 _ _ ha)) (atI_nat (j := 1) rfl) ?_
    walk_at "rf"
    have hl := sdg_len hm
    refine ⟨Nat.lt_trans hm (Nat.pow_lt_pow_right (by decide) (by decide)), ?_⟩
    rw [str_sdg]
    walk_at "rf"
    refine r_ixT (SqT.of (s1 _ _ ha)) (atI_nat (j := 2) rfl) ?_
    refine r_rep (c := 48) (show ("0" : Str) = S [48] by decide +kernel) (by omega) (by omega) ?_
    refine r_add rfl rfl (by rw [List.length_replicate]; omega) ?_
    rw [S_cat]
    walk_at "rf"
    have zl : (sdg m ++ List.replicate e.toNat 48).length ≤ 900 := by rw [List.length_append, List.length_replicate]; omega
    refine ⟨_, rfl, _, rfl, Nat.le_trans zl (by decide), fun q2 H2 n2 g2 s2 => ?_⟩
    refine r_catB (s2 _ _ g1) g2 (by rw [asc_len]; show 1 + _ ≤ _; omega) fun q3 H3 n3 g3 s3 => ?_
    walk_at "rf"
    refine ⟨by show 1 ≤ sizeLine; decide, fun q4 H4 n4 g4 s4 => ?_⟩
    have g4 : H4 q4 = some (.lst (([101] : List Int).map V.int)) := g4
    walk_at "rf"
    refine r_catB (s4 _ _ g3) g4 (by rw [List.length_append, asc_len]; show 1 + _ + 1 ≤ _; omega) fun q5 H5 n5 g5 s5 => ?_
    have s15 := (((s1.trans s2).trans s3).trans s4)
    have eo : [105] ++ asc (sdg m ++ List.replicate e.toNat 48) ++ [101] = numO m e := rfl
    rw [eo] at g5
    refine h (numO m e) ⟨.num m e, ?_⟩ q5 H5 (s15.free n5) g5 (s15.trans s5)
    rw [← eo, List.length_append, List.length_append, asc_len]
    show 1 + _ + 1 ≤ 2000
    omega
  | bytes os hl =>
    cases hx with
    | cons h1 h2 =>
    cases h1
    cases h2 with
    | cons h1 h2 =>
    cases h2
    obtain ⟨b, rfl, hb⟩ := tp_kdB h1
    walk_at "rf"
    refine r_ixT (SqT.of ha) (atI_nat (j := 0) rfl) ?_
    walk_at "rf"
    refine r_iteN (show ¬ ("bytes" : Str) = "number" by decide +kernel) ?_
    walk_at "rf"
    refine r_ixT (SqT.of ha) (atI_nat (j := 1) rfl) ?_
    walk_at "rf"
    refine ⟨_, rfl, b, os, rfl, .inr (SqT.of hb), by omega, fun q5 H5 n5 g5 s5 => ?_⟩
    refine h (strO os) ⟨.bytes os, ?_⟩ q5 H5 n5 g5 s5
    have dl : (dg os.length).length ≤ 5 := dg_lenP (Nat.lt_of_le_of_lt hl (by decide : 300 < 10 ^ 4))
    unfold strO
    rw [List.length_append, List.length_append, asc_len]
    show _ + 1 + _ ≤ 2000
    omega
end

/-! ### what lacks, by the law; what is due -/



theorem leafO_eq {k : Str} {r : List PyData} {os : List Int} (h : leafO k r os) : os = lfO k r := by
  obtain ⟨h, _⟩ := h
  generalize hv : Vl.lf k r = v at h
  cases h with
  | num m e => cases hv; rfl
  | bytes os => cases hv; exact (lfO_bytes os).symm
def sp__law_lacks (K : Frg) : Sp := sp1 fun v H Q _ => ∃ (p : Addr) (k : Str) (xs : List V) (r : List PyData), v = .ref p ∧ H p = some (.tup (.str k :: xs)) ∧ TpAll H xs r ∧ Lg k r ∧ ∀ H', Same H H' → Q (.bl (lackK k r)) H'
def sp__law_kinds (K : Frg) : Sp := sp1 fun a H Q _ => ∃ S l, a = .ref S.a ∧ LB K S l H ∧ ∀ (q : Addr) (ks : List Str) (H' : Hp), KsOk ks → q ≠ S.a → H' q = some (.lst (ks.map V.str)) → LB K S l H' → Keep S H H' → Q (.ref q) H'
def sp__law_due (K : Frg) : Sp := sp1 fun v H Q _ => ∃ e : Ev, Tp H v e.dat ∧ EvB e ∧ Out H (bO e) Q
theorem num_lb {k : Str} {r : List PyData} (h : Lg k r) : NumK k r := fun z => by
  cases h with
  | of h =>
    cases h with
    | number m e _ _ => exact ⟨m, e, rfl⟩
    | bytes os _ => exact absurd z (by decide +kernel)
  | far m e _ => exact ⟨m, e, rfl⟩
  | odd k r h => rcases h with e | e | e <;> (rw [e] at z; exact absurd z (by decide +kernel))
theorem lack_odd {k : Str} {r : List PyData} (h : k = "null" ∨ k = "truth" ∨ k = "text") : lackK k r = true := by
  rcases h with e | e | e <;> subst e <;> (unfold lackK; rw [if_neg (by decide +kernel)]; decide +kernel)
theorem lack_bytes (r : List PyData) : lackK "bytes" r = false := by
  unfold lackK
  rw [if_neg (by decide +kernel)]
  decide +kernel
theorem lack_num (m e : Int) : lackK "number" [.int m, .int e] = !(decide (0 ≤ e) && decide (e ≤ 800)) := rfl
/-- what does not lack -/
theorem lg_lb {k : Str} {r : List PyData} (h : Lg k r) (z : lackK k r = false) : Lb k r := by
  cases h with
  | of h => exact h
  | far m e h =>
    rw [lack_num] at z
    by_cases c : 0 ≤ e
    · rw [decide_eq_true c, decide_eq_false (fun q => h ⟨c, q⟩)] at z
      cases z
    · rw [decide_eq_false c] at z
      cases z
  | odd k r h =>
    rw [lack_odd h] at z
    cases z
section
variable {P : Program} {w : World} {K : PySem.W.Frag} {mg : Str → Option Value} {base : Heap} {f : Addr} {fd : FuncData}
theorem ok__law_lacks (F : FunD K "_law_lacks" "_law_lacks" (defArgs s__law_lacks) (defBody s__law_lacks) (defScope s__law_lacks) [] [] (glAd "_law_lacks" K) fd) (m : mg "_law_lacks" = some (.ref (glAd "_law_lacks" K))) (nb : Nm K mg) : Cal P w K mg base 1 "_law_lacks" (sp__law_lacks K) [] := by
  refine calD F m sc__law_lacks (fun _ _ _ _ _ _ us hl => match us, hl with | [_], _ => rfl) len1 (fun cdv A outer s H vs Q E hr h => ⟨_, (pss_cons (ps_if (pt_cmpR op_eq (pe_ix ix_tup (pv 0) pe_int (fun _ _ => rfl)) pe_str (nomark _))
    (pss_one (ps_ret (pe_or (pe_cmpR op_lt (pe_ix ix_tup (pv 0) pe_int (fun _ _ => rfl)) pe_int (nomark _)) (pe_one (pe_cmpR op_gt (pe_ix ix_tup (pv 0) pe_int (fun _ _ => rfl)) pe_int (nomark _))))))
    pss_nil)
    (pss_one (ps_ret (pe_cmpR op_in_seq (pe_ix ix_tup (pv 0) pe_int (fun _ _ => rfl)) (pe_lstE (pa_cons pe_str (pa_cons pe_str (pa_cons pe_str pa_nil)))) rfl)))), ?_⟩)
  obtain ⟨_, rfl, p, k, xs, r, rfl, hp, hx, lg, hq⟩ := h
  have h := hq H (fun _ _ z => z)
  have num : ∀ m e : Int, k = "number" → r = [.int m, .int e] → xs = [.int m, .int e] := fun m e _ er => by
    subst er
    cases hx with
    | cons h1 h2 =>
      cases h1
      cases h2 with
      | cons h1 h2 =>
        cases h1
        cases h2
        rfl
  walk_at "rf"
  refine r_ixT (SqT.of hp) (atI_nat (j := 0) rfl) ?_
  walk_at "rf"
  by_cases c : k = "number"
  · obtain ⟨m, e, er⟩ := num_lb lg c
    have ex := num m e c er
    subst c er ex
    rw [lack_num] at h
    refine r_itep rfl ?_
    walk_at "rf"
    refine r_ixT (SqT.of hp) (atI_nat (j := 2) rfl) ?_
    walk_at "rf"
    by_cases c0 : e < 0
    · rw [if_pos (by rw [decide_eq_true c0])]
      rw [decide_eq_false (show ¬ 0 ≤ e by omega)] at h
      exact h
    · rw [if_neg (by rw [decide_eq_false c0]; decide)]
      walk_at "rf"
      refine r_ixT (SqT.of hp) (atI_nat (j := 2) rfl) ?_
      walk_at "rf"
      have eq : (!(decide (0 ≤ e) && decide (e ≤ 800))) = decide (800 < e) := by
        rw [decide_eq_true (show 0 ≤ e by omega), Bool.true_and]
        by_cases c8 : e ≤ 800
        · rw [decide_eq_true c8, decide_eq_false (show ¬ 800 < e by omega)]
          rfl
        · rw [decide_eq_false c8, decide_eq_true (show 800 < e by omega)]
          rfl
      rw [eq] at h
      exact h
  · refine r_iteN c ?_
    walk_at "rf"
    refine r_ixT (SqT.of hp) (atI_nat (j := 0) rfl) ?_
    walk_at "rf"
    refine ⟨by show 3 ≤ sizeLine; decide, fun q H2 n2 g2 s2 => ?_⟩
    refine ⟨q, _, rfl, .inl (SqL.of g2), rfl, rfl, ?_⟩
    rw [if_neg Bool.false_ne_true, in_three]
    have e : (decide (k = "null") || (decide (k = "truth") || decide (k = "text"))) = lackK k r := by
      cases lg with
      | of h =>
        cases h with
        | number m e _ _ => exact absurd rfl c
        | bytes os _ => rw [lack_bytes]; decide +kernel
      | far m e _ => exact absurd rfl c
      | odd k r h =>
        rw [lack_odd h]
        rcases h with e | e | e <;> subst e <;> decide +kernel
    rw [e]
    exact hq H2 s2
theorem ok__law_kinds (F : FunD K "_law_kinds" "_law_kinds" (defArgs s__law_kinds) (defBody s__law_kinds) (defScope s__law_kinds) [] [] (glAd "_law_kinds" K) fd) (m : mg "_law_kinds" = some (.ref (glAd "_law_kinds" K))) (nb : Nm K mg) (c__law_next : Cal P w K mg base 1 "_law_next" (sp__law_next K) []) : Cal P w K mg base 2 "_law_kinds" (sp__law_kinds K) [] := by
  refine calD F m sc__law_kinds (fun _ _ _ _ _ _ us hl => match us, hl with | [_], _ => rfl) len1 (fun cdv A outer s H vs Q E hr h => ⟨_, (pss_cons (ps_set (i := 1) sc__law_kinds.nd rfl (Or.inl rfl) (pe_ix ix_list (pe_lstE (pa_cons pe_str (pa_cons pe_str (pa_cons pe_str (pa_cons pe_str (pa_cons pe_str (pa_cons pe_str (pa_cons pe_str (pa_cons pe_str pa_nil))))))))) (pe_c c__law_next hr (by decide) rfl (pa_cons (pv 0) (pa_cons pe_int pa_nil))) (fun _ _ => rfl)))
    (pss_one (ps_ret (pe_lstE (pa_cons pe_str (pa_cons pe_str (pa_cons pe_str (pa_cons pe_str (pa_cons pe_str (pa_cons pe_str (pa_cons pe_str (pa_cons (pv 1) pa_nil)))))))))))), ?_⟩)
  obtain ⟨_, rfl, S, l, rfl, L, h⟩ := h
  walk_at "rf"
  refine ⟨by show 8 ≤ sizeLine; decide, fun p1 H1 n1 g1 s1 => ?_⟩
  have L1 := L.same s1
  walk_at "rf"
  refine b_next L1 (by decide) fun r2 H2 a2 b2 L2 k2 => ?_
  have g1 : H1 p1 = some (.lst ((["number", "bytes", "far", "far", "null", "truth", "text", "far"] : List Str).map V.str)) := g1
  have hr : r2.toNat < 8 := by omega
  have er : r2 = ((r2.toNat : Nat) : Int) := by omega
  obtain ⟨o, ho⟩ : ∃ o, (["number", "bytes", "far", "far", "null", "truth", "text", "far"] : List Str)[r2.toNat]? = some o := ⟨_, List.getElem?_eq_getElem hr⟩
  have hm := List.mem_of_getElem? ho
  have q := atI_nat (xs := (["number", "bytes", "far", "far", "null", "truth", "text", "far"] : List Str).map V.str) (j := r2.toNat) (v := .str o) (by rw [List.getElem?_map, ho]; rfl)
  rw [← er] at q
  refine r_ixL (SqL.of (k2 _ _ (L.ne_free n1) g1)) q ?_
  walk_at "rf"
  refine ⟨by show 8 ≤ sizeLine; decide, fun p3 H3 n3 g3 s3 => ?_⟩
  refine h p3 ["number", "number", "number", "bytes", "bytes", "bytes", "bytes", o] H3 ⟨by show 0 < 8; decide, by show 8 ≤ 100; decide, fun k hk => ?_⟩ (L2.ne_free n3) g3 (L2.same s3) (((Keep.of s1).trans k2).trans (Keep.of s3))
  simp only [List.mem_cons, List.not_mem_nil, or_false] at hk hm
  rcases hk with e | e | e | e | e | e | e | e <;> (try (rw [e]; simp)) ; subst e; rcases hm with e | e | e | e | e | e | e | e <;> rw [e] <;> simp
theorem ok__law_due (F : FunD K "_law_due" "_law_due" (defArgs s__law_due) (defBody s__law_due) (defScope s__law_due) [] [] (glAd "_law_due" K) fd) (m : mg "_law_due" = some (.ref (glAd "_law_due" K))) (nb : Nm K mg) (c__law_utf8 : Cal P w K mg base 1 "_law_utf8" (sp__law_utf8 K) []) (c__law_string : Cal P w K mg base 2 "_law_string" (sp__law_string K) []) (c__law_leaf_written : Cal P w K mg base 3 "_law_leaf_written" (sp__law_leaf_written K) []) : Cal P w K mg base 4 "_law_due" (sp__law_due K) [] := by
  refine calD F m sc__law_due (fun _ _ _ _ _ _ us hl => match us, hl with | [_], _ => rfl) len1 (fun cdv A outer s H vs Q E hr h => ⟨_, (pss_cons (ps_if (pt_cmpR op_eq (pe_ix ix_tup (pv 0) pe_int (fun _ _ => rfl)) pe_str (nomark _))
    (pss_one (ps_ret (pe_lstE (pa_cons (pe_ix ix_list (pe_lstE (pa_cons pe_int (pa_cons pe_int pa_nil))) (pe_callTy call_int1 (by rfl) nb.int (by decide +kernel) (pa_cons (pe_cmpR op_eq (pe_ix ix_tup (pv 0) pe_int (fun _ _ => rfl)) pe_str (nomark _)) pa_nil)) (fun _ _ => rfl)) pa_nil))))
    pss_nil)
    (pss_cons (ps_if (pt_cmpR op_eq (pe_ix ix_tup (pv 0) pe_int (fun _ _ => rfl)) pe_str (nomark _))
    (pss_one (ps_ret (pe_c c__law_string hr (by decide) rfl (pa_cons (pe_c c__law_utf8 hr (by decide) rfl (pa_cons (pe_ix ix_tup (pv 0) pe_int (fun _ _ => rfl)) pa_nil)) pa_nil))))
    pss_nil)
    (pss_cons (ps_if (pt_cmpR op_eq (pe_ix ix_tup (pv 0) pe_int (fun _ _ => rfl)) pe_str (nomark _))
    (pss_one (ps_ret (pe_c c__law_leaf_written hr (by decide) rfl (pa_cons (pe_ix ix_tup (pv 0) pe_int (fun _ _ => rfl)) pa_nil))))
    pss_nil)
    (pss_one (ps_ret (pe_lstE (pa_cons pe_int pa_nil))))))), ?_⟩)
  obtain ⟨_, rfl, e, he, ok, h⟩ := h
  cases e with
  | op mm =>
    obtain ⟨p, rfl, hp⟩ := ev_op he
    walk_at "rf"
    refine r_ixT (SqT.of hp) (atI_nat (j := 0) rfl) ?_
    walk_at "rf"
    refine r_ite (fun _ => ?_) (fun c => absurd rfl c)
    walk_at "rf"
    refine ⟨by show 2 ≤ sizeLine; decide, fun q1 H1 n1 g1 s1 => ?_⟩
    walk_at "rf"
    refine r_ixT (SqT.of (s1 _ _ hp)) (atI_nat (j := 1) rfl) ?_
    walk_at "rf"
    refine .inr ⟨_, rfl, ?_⟩
    cases mm with
    | true =>
      refine r_ixL (SqL.of g1) (v := .int 100) (by rw [if_pos (by rw [decide_eq_true (show kindOf_ true = "map" by decide +kernel)])]; rfl) ?_
      walk_at "rf"
      exact ⟨by show 1 ≤ sizeLine; decide, h.same s1⟩
    | false =>
      refine r_ixL (SqL.of g1) (v := .int 108) (by rw [if_neg (by rw [decide_eq_false (show ¬ kindOf_ false = "map" by decide +kernel)]; decide)]; rfl) ?_
      walk_at "rf"
      exact ⟨by show 1 ≤ sizeLine; decide, h.same s1⟩
  | ky k =>
    obtain ⟨p, q, rfl, hp, hq2⟩ := ev_ky he
    walk_at "rf"
    refine r_ixT (SqT.of hp) (atI_nat (j := 0) rfl) ?_
    walk_at "rf"
    refine r_iteN (show ¬ ("key" : Str) = "open" by decide +kernel) ?_
    walk_at "rf"
    refine r_ixT (SqT.of hp) (atI_nat (j := 0) rfl) ?_
    walk_at "rf"
    refine r_ite (fun _ => ?_) (fun c => absurd rfl c)
    walk_at "rf"
    refine r_ixT (SqT.of hp) (atI_nat (j := 1) rfl) ?_
    walk_at "rf"
    refine ⟨_, rfl, q, k, rfl, hq2, ok.1, fun q2 H2 n2 g2 s2 => ?_⟩
    walk_at "rf"
    exact ⟨_, rfl, q2, encs k, rfl, .inl (SqL.of g2), by have := len_encs k; have := ok.1; omega, h.same s2⟩
  | lf k r =>
    obtain ⟨p, q, xs, rfl, hp, hq2, hx⟩ := ev_lf he
    walk_at "rf"
    refine r_ixT (SqT.of hp) (atI_nat (j := 0) rfl) ?_
    walk_at "rf"
    refine r_iteN (show ¬ ("leaf" : Str) = "open" by decide +kernel) ?_
    walk_at "rf"
    refine r_ixT (SqT.of hp) (atI_nat (j := 0) rfl) ?_
    walk_at "rf"
    refine r_iteN (show ¬ ("leaf" : Str) = "key" by decide +kernel) ?_
    walk_at "rf"
    refine r_ixT (SqT.of hp) (atI_nat (j := 0) rfl) ?_
    walk_at "rf"
    refine r_ite (fun _ => ?_) (fun c => absurd rfl c)
    walk_at "rf"
    refine r_ixT (SqT.of hp) (atI_nat (j := 1) rfl) ?_
    walk_at "rf"
    exact ⟨_, rfl, k, r, .tup hq2 (.cons (.str _) hx), ok, fun os ho => by rw [leafO_eq ho]; exact h⟩
  | cl =>
    obtain ⟨p, rfl, hp⟩ := ev_cl he
    walk_at "rf"
    refine r_ixT (SqT.of hp) (atI_nat (j := 0) rfl) ?_
    walk_at "rf"
    refine r_iteN (show ¬ ("close" : Str) = "open" by decide +kernel) ?_
    walk_at "rf"
    refine r_ixT (SqT.of hp) (atI_nat (j := 0) rfl) ?_
    walk_at "rf"
    refine r_iteN (show ¬ ("close" : Str) = "key" by decide +kernel) ?_
    walk_at "rf"
    refine r_ixT (SqT.of hp) (atI_nat (j := 0) rfl) ?_
    walk_at "rf"
    refine r_iteN (show ¬ ("close" : Str) = "leaf" by decide +kernel) ?_
    walk_at "rf"
    exact ⟨by show 1 ≤ sizeLine; decide, h⟩
end

/-! ### the events of a value, by the law -/

mutual
/-- the events of a value, entries in any order -/
inductive EvR : Vl → List Ev → Prop
  | lf {k : Str} {r : List PyData} : EvR (.lf k r) [.lf k r]
  | ls {xs : List Vl} {es : List Ev} (h : EvRL xs es) : EvR (.ls xs) (.op false :: (es ++ [.cl]))
  | mp {xs xs' : List (List Int × Vl)} {es : List Ev} (p : xs'.Perm xs) (h : EvRM xs' es) : EvR (.mp xs) (.op true :: (es ++ [.cl]))
inductive EvRL : List Vl → List Ev → Prop
  | nil : EvRL [] []
  | cons {x : Vl} {xs : List Vl} {e es : List Ev} (h : EvR x e) (t : EvRL xs es) : EvRL (x :: xs) (e ++ es)
inductive EvRM : List (List Int × Vl) → List Ev → Prop
  | nil : EvRM [] []
  | cons {k : List Int} {x : Vl} {xs : List (List Int × Vl)} {e es : List Ev} (h : EvR x e) (t : EvRM xs es) : EvRM ((k, x) :: xs) (.ky k :: (e ++ es))
end
theorem EvRL.snoc : ∀ {xs : List Vl} {es : List Ev} {x : Vl} {e : List Ev}, EvRL xs es → EvR x e → EvRL (xs ++ [x]) (es ++ e)
  | [], _, x, t, .nil, h => by
    have e : t = t ++ [] := (List.append_nil t).symm
    rw [List.nil_append, List.nil_append, e]
    exact .cons h .nil
  | y :: ys, _, x, t, .cons h1 r, h => by
    rw [List.cons_append, List.append_assoc]
    exact .cons h1 (EvRL.snoc r h)
theorem EvRM.snoc : ∀ {xs : List (List Int × Vl)} {es : List Ev} {k : List Int} {x : Vl} {e : List Ev}, EvRM xs es → EvR x e → EvRM (xs ++ [(k, x)]) (es ++ (.ky k :: e))
  | [], _, k, x, t, .nil, h => by
    have e : t = t ++ [] := (List.append_nil t).symm
    rw [List.nil_append, List.nil_append, e]
    exact .cons h .nil
  | y :: ys, _, k, x, t, .cons h1 r, h => by
    rw [List.cons_append, List.cons_append, List.append_assoc]
    exact .cons h1 (EvRM.snoc r h)
theorem tpM_perm {H : Hp} {ys xs : List V} (p : ys.Perm xs) : ∀ es : List (List Int × Vl), TpAll H xs (datM es) → ∃ es', es'.Perm es ∧ TpAll H ys (datM es') := by
  induction p with
  | nil => exact fun es h => ⟨es, .refl _, h⟩
  | cons x _ ih =>
    intro es h
    cases es with
    | nil => cases h
    | cons e es =>
      obtain ⟨k, v⟩ := e
      cases h with
      | cons h1 h2 =>
        obtain ⟨es', p', t'⟩ := ih es h2
        exact ⟨(k, v) :: es', p'.cons _, .cons h1 t'⟩
  | swap x y l =>
    intro es h
    match es, h with
    | [], h => cases h
    | [_], h =>
      cases h with
      | cons h1 h2 => cases h2
    | (k, v) :: (k2, v2) :: es, h =>
      cases h with
      | cons h1 h2 =>
        cases h2 with
        | cons h2 h3 => exact ⟨(k2, v2) :: (k, v) :: es, .swap _ _ _, .cons h2 (.cons h1 h3)⟩
  | trans _ _ ih1 ih2 =>
    intro es h
    obtain ⟨es2, p2, t2⟩ := ih2 es h
    obtain ⟨es1, p1, t1⟩ := ih1 es2 t2
    exact ⟨es1, p1.trans p2, t1⟩
theorem vszM_perm {xs ys : List (List Int × Vl)} (p : xs.Perm ys) : vszM xs = vszM ys := by
  rw [vszM_sum, vszM_sum, (p.map _).sum_nat, p.length_eq]
/-- list + list, of anything -/
theorem r_catV {a b : Addr} {xs ys : List V} {H : Hp} {Q : VK} (h1 : H a = some (.lst xs)) (h2 : H b = some (.lst ys)) (hl : xs.length + ys.length ≤ 16700000) (h : ∀ p H', H p = none → H' p = some (.lst (xs ++ ys)) → Same H H' → Q (.ref p) H') : rCat (.ref a) (.ref b) H Q :=
  ⟨a, b, _, _, rfl, rfl, h1, h2, Nat.le_trans hl (by decide : 16700000 ≤ sizeLine), fun p hp => h p _ hp upd_same (same_upd hp _)⟩
theorem vszL_take : ∀ (xs : List Vl) (i : Nat), vszL (xs.take i) ≤ vszL xs
  | [], i => by simp [vszL]
  | x :: xs, 0 => Nat.zero_le _
  | x :: xs, i + 1 => by
    have := vszL_take xs i
    show vsz x + vszL (xs.take i) ≤ vsz x + vszL xs
    omega
theorem vszL_mem : ∀ {xs : List Vl} {x : Vl}, x ∈ xs → vsz x ≤ vszL xs
  | y :: xs, x, h => by
    rcases List.mem_cons.mp h with e | h
    · rw [e]
      show _ ≤ vsz y + vszL xs
      omega
    · have := vszL_mem h
      show _ ≤ vsz y + vszL xs
      omega
theorem vszM_take : ∀ (xs : List (List Int × Vl)) (i : Nat), vszM (xs.take i) ≤ vszM xs
  | [], i => by simp [vszM]
  | (k, x) :: xs, 0 => Nat.zero_le _
  | (k, x) :: xs, i + 1 => by
    have := vszM_take xs i
    show 1 + vsz x + vszM (xs.take i) ≤ 1 + vsz x + vszM xs
    omega
theorem vszM_mem : ∀ {xs : List (List Int × Vl)} {x : List Int × Vl}, x ∈ xs → vsz x.2 ≤ vszM xs
  | (k, y) :: xs, x, h => by
    rcases List.mem_cons.mp h with e | h
    · rw [e]
      show vsz y ≤ 1 + vsz y + vszM xs
      omega
    · have := vszM_mem h
      show _ ≤ 1 + vsz y + vszM xs
      omega
theorem vszL_snoc (xs : List Vl) (x : Vl) : vszL (xs ++ [x]) = vszL xs + vsz x := by rw [vszL_app]; show _ + (_ + 0) = _; omega
theorem vszM_app : ∀ (xs ys : List (List Int × Vl)), vszM (xs ++ ys) = vszM xs + vszM ys
  | [], ys => (Nat.zero_add _).symm
  | (k, x) :: xs, ys => by
    show 1 + vsz x + vszM (xs ++ ys) = 1 + vsz x + vszM xs + vszM ys
    rw [vszM_app xs ys]
    omega
theorem vszM_snoc (xs : List (List Int × Vl)) (k : List Int) (x : Vl) : vszM (xs ++ [(k, x)]) = vszM xs + (1 + vsz x) := by rw [vszM_app]; show _ + (_ + 0) = _; omega
def sp__law_events (K : Frg) (n : Nat) : Sp := sp2 fun a b H Q _ => ∃ (S : SC) (l : Int) (t : Vl) (d : Nat), a = .ref S.a ∧ Tp H b t.dat ∧ t.gf d ∧ d < n ∧ LB K S l H ∧ vsz t ≤ 7000 ∧
  ∀ (p : Addr) (vs : List V) (es : List Ev) (H' : Hp), EvR t es → es.length ≤ 2 * vsz t → H p = none → p ≠ S.a → H' p = some (.lst vs) → TpAll H' vs (evD es) → LB K S l H' → Keep S H H' → Q (.ref p) H'
theorem no__law_events {K : Frg} {vs : List V} {H : Hp} {Q : VK} {E : XK} (h : sp__law_events K 0 vs H Q E) : False := by
  obtain ⟨_, _, rfl, S, l, t, d, _, _, _, h, _⟩ := h
  exact absurd h (Nat.not_lt_zero _)
section
variable {P : Program} {w : World} {K : PySem.W.Frag} {mg : Str → Option Value} {base : Heap} {f : Addr} {fd : FuncData}
theorem ok__law_events (n : Nat) (F : FunD K "_law_events" "_law_events" (defArgs s__law_events) (defBody s__law_events) (defScope s__law_events) [] [] (glAd "_law_events" K) fd) (m : mg "_law_events" = some (.ref (glAd "_law_events" K))) (nb : Nm K mg) (c__law_mixed : Cal P w K mg base 2 "_law_mixed" (sp__law_mixed K) []) (c__law_events : Cal P w K mg base (3 + n) "_law_events" (sp__law_events K n) []) : Cal P w K mg base (3 + n + 1) "_law_events" (sp__law_events K (n + 1)) [] := by
  refine calD F m sc__law_events (fun _ _ _ _ _ _ us hl => match us, hl with | [_, _], _ => rfl) len2 (fun cdv A outer s H vs Q E hr h => ⟨_, (pss_cons (ps_if (pt_cmpR op_eq (pe_ix ix_tup (pv 1) pe_int (fun _ _ => rfl)) pe_str (nomark _))
    (pss_cons (ps_set (i := 2) sc__law_events.nd rfl (Or.inl rfl) (pe_lstE (pa_cons (pe_tupE (pa_cons pe_str (pa_cons pe_str pa_nil))) pa_nil)))
    (pss_cons (ps_for PassesOwn.never rfl (pi_tup (pe_ix ix_tup (pv 1) pe_int (fun _ _ => rfl))) (pg_name (i := 3) sc__law_events.nd rfl (Or.inl rfl))
    (pss_one (ps_set (i := 2) sc__law_events.nd rfl (Or.inl rfl) (pe_op op_cat (pv 2) (pe_c c__law_events hr (by omega) rfl (pa_cons (pv 0) (pa_cons (pv 3) pa_nil)))))))
    (pss_one (ps_ret (pe_op op_cat (pv 2) (pe_lstE (pa_cons (pe_tupE (pa_cons pe_str pa_nil)) pa_nil)))))))
    pss_nil)
    (pss_cons (ps_if (pt_cmpR op_eq (pe_ix ix_tup (pv 1) pe_int (fun _ _ => rfl)) pe_str (nomark _))
    (pss_cons (ps_set (i := 2) sc__law_events.nd rfl (Or.inl rfl) (pe_lstE (pa_cons (pe_tupE (pa_cons pe_str (pa_cons pe_str pa_nil))) pa_nil)))
    (pss_cons (ps_for PassesOwn.never rfl (pi_list (pe_c c__law_mixed hr (by omega) rfl (pa_cons (pv 0) (pa_cons (pe_ix ix_tup (pv 1) pe_int (fun _ _ => rfl)) pa_nil)))) (pg_name (i := 4) sc__law_events.nd rfl (Or.inl rfl))
    (pss_one (ps_set (i := 2) sc__law_events.nd rfl (Or.inl rfl) (pe_op op_cat (pe_op op_cat (pv 2) (pe_lstE (pa_cons (pe_tupE (pa_cons pe_str (pa_cons (pe_ix ix_tup (pv 4) pe_int (fun _ _ => rfl)) pa_nil))) pa_nil))) (pe_c c__law_events hr (by omega) rfl (pa_cons (pv 0) (pa_cons (pe_ix ix_tup (pv 4) pe_int (fun _ _ => rfl)) pa_nil)))))))
    (pss_one (ps_ret (pe_op op_cat (pv 2) (pe_lstE (pa_cons (pe_tupE (pa_cons pe_str pa_nil)) pa_nil)))))))
    pss_nil)
    (pss_one (ps_ret (pe_lstE (pa_cons (pe_tupE (pa_cons pe_str (pa_cons (pv 1) pa_nil))) pa_nil)))))), ?_⟩)
  obtain ⟨_, v, rfl, S, l, t, d, rfl, tp, gf, hd, L, hs, h⟩ := h
  -- 0:state 1:value 2:found 3:item 4:entry
  cases t with
  | lf k r =>
    have lg : Lg k r := by cases d <;> exact gf
    have kind : k ≠ "list" ∧ k ≠ "map" := by
      cases lg with
      | of h => cases h <;> exact ⟨by decide +kernel, by decide +kernel⟩
      | far m e _ => exact ⟨by decide +kernel, by decide +kernel⟩
      | odd k r h => rcases h with e | e | e <;> (rw [e]; exact ⟨by decide +kernel, by decide +kernel⟩)
    obtain ⟨a, ws, rfl, ha, hw⟩ := tp_lf tp
    walk_at "rf"
    refine r_ixT (SqT.of ha) (atI_nat (j := 0) rfl) ?_
    walk_at "rf"
    refine r_iteN kind.1 ?_
    walk_at "rf"
    refine r_ixT (SqT.of ha) (atI_nat (j := 0) rfl) ?_
    walk_at "rf"
    refine r_iteN kind.2 ?_
    walk_at "rf"
    refine ⟨by show 2 ≤ sizeLine; decide, fun q1 H1 n1 g1 s1 => ?_⟩
    walk_at "rf"
    refine ⟨by show 1 ≤ sizeLine; decide, fun q2 H2 n2 g2 s2 => ?_⟩
    have s12 := s1.trans s2
    exact h q2 _ _ H2 .lf (by show 1 ≤ 2; decide) (s1.free n2) ((L.same s1).ne_free n2) g2 (.cons (.tup (s2 _ _ g1) (.cons (.str _) (.cons (.tup (s12 _ _ ha) (.cons (.str _) (TpAll.tk (Same.tk s12) _ _ hw))) .nil))) .nil) (L.same s12) (Keep.of s12)
  | ls xs =>
    obtain ⟨d, rfl⟩ : ∃ d', d = d' + 1 := by
      cases d with
      | zero => exact (show False from gf).elim
      | succ d => exact ⟨d, rfl⟩
    have gf : xs.length ≤ 49 ∧ gfL d xs := gf
    have hs : 1 + vszL xs ≤ 7000 := hs
    obtain ⟨a, b, ws, rfl, ha, hb, hw⟩ := tp_ls tp
    have hwl : ws.length = xs.length := by rw [tpAll_len hw, datL_map, List.length_map]
    walk_at "rf"
    refine r_ixT (SqT.of ha) (atI_nat (j := 0) rfl) ?_
    walk_at "rf"
    refine r_ite (fun _ => ?_) (fun c => absurd rfl c)
    walk_at "rf"
    refine ⟨by show 2 ≤ sizeLine; decide, fun q1 H1 n1 g1 s1 => ?_⟩
    walk_at "rf"
    refine ⟨by show 1 ≤ sizeLine; decide, fun q2 H2 n2 g2 s2 => ?_⟩
    have s12 := s1.trans s2
    walk_at "rf"
    refine r_ixT (SqT.of (s12 _ _ ha)) (atI_nat (j := 1) rfl) ?_
    walk_at "rf"
    refine ⟨b, rfl, ⟨ws, SqT.of (s12 _ _ hb)⟩, ?_⟩
    refine r_eachT (xs := ws) (fun i σ H' => LB K S l H' ∧ Keep S H H' ∧ ∃ (p : Addr) (vs : List V) (es : List Ev) (y3 : Option V), EvRL (xs.take i) es ∧ es.length ≤ 2 * vszL (xs.take i) ∧ H p = none ∧ p ≠ S.a ∧ H' p = some (.lst vs) ∧ TpAll H' vs (evD (.op false :: es)) ∧ σ = [some (.ref S.a), some (.ref a), some (.ref p), y3, none]) ⟨L.same s12, Keep.of s12, q2, _, [], _, .nil, Nat.zero_le _, s1.free n2, (L.same s1).ne_free n2, g2, .cons (.tup (s2 _ _ g1) (.cons (.str _) (.cons (.str _) .nil))) .nil, rfl⟩ (fun i σ H' hh => SqT.of (keep_tk L.ls hh.2.1 _ _ hb)) ?_ ?_
    · rintro i x σ H3 hx ⟨L3, k3, p, vs, es, y3, er, el, np, ps, g3, te, rfl⟩
      have hi : i < ws.length := (List.getElem?_eq_some_iff.mp hx).1
      have hx2 : xs[i]? = some xs[i] := List.getElem?_eq_getElem (by omega)
      obtain ⟨dd, e1, e2⟩ := tpAll_get hw hx
      have tx : Tp H x (xs[i]).dat := by
        rw [datL_map, List.getElem?_map, hx2] at e1
        cases e1
        exact e2
      have hm : xs[i] ∈ xs := List.getElem_mem _
      have et : xs.take (i + 1) = xs.take i ++ [xs[i]] := take_one hx2
      have b1 := vszL_take xs i
      have b2 := vszL_mem hm
      have vl : vs.length = es.length + 1 := by
        have := tpAll_len te
        rw [evD_len] at this
        exact this
      walk_at "rf"
      refine ⟨_, _, rfl, S, l, xs[i], d, rfl, Tp.tk (keep_tk L.ls k3) _ _ tx, gfL_mem gf.2 _ hm, by omega, L3, by omega, fun p9 vs9 es9 H9 r9 l9 n9 ne9 g9 t9 L9 k9 => ?_⟩
      have vl9 : vs9.length = es9.length := by
        have := tpAll_len t9
        rw [evD_len] at this
        exact this
      refine r_catV (k9 _ _ ps g3) g9 (by omega) fun pa Ha na ga sa => ?_
      walk_at "rf"
      refine ⟨L9.same sa, (k3.trans k9).trans (Keep.of sa), pa, vs ++ vs9, es ++ es9, _, by rw [et]; exact er.snoc r9, by rw [et, vszL_snoc, List.length_append]; omega, (k3.trans k9).free L9.ls na, L9.ne_free na, ga, ?_, rfl⟩
      rw [← List.cons_append, evD_app]
      exact tpAll_app (TpAll.tk ((keep_tk L3.ls k9).trans (Same.tk sa)) _ _ te) (TpAll.tk (Same.tk sa) _ _ t9)
    · rintro σ H3 ⟨L3, k3, p, vs, es, y3, er, el, np, ps, g3, te, rfl⟩
      rw [hwl, List.take_length] at er el
      have vl : vs.length = es.length + 1 := by
        have := tpAll_len te
        rw [evD_len] at this
        exact this
      walk_at "rf"
      refine ⟨by show 1 ≤ sizeLine; decide, fun q4 H4 n4 g4 s4 => ?_⟩
      walk_at "rf"
      refine ⟨by show 1 ≤ sizeLine; decide, fun q5 H5 n5 g5 s5 => ?_⟩
      have s45 := s4.trans s5
      refine r_catV (s45 _ _ g3) g5 (by show _ + 1 ≤ _; omega) fun pa Ha na ga sa => ?_
      have s4a := s45.trans sa
      refine h pa _ (.op false :: (es ++ [.cl])) Ha (.ls er) (by rw [List.length_cons, List.length_append]; show _ + 1 + 1 ≤ 2 * (1 + vszL xs); omega) ((k3.trans (Keep.of s45)).free (L3.same s45).ls na) ((L3.same s45).ne_free na) ga ?_ (L3.same s4a) (k3.trans (Keep.of s4a))
      rw [← List.cons_append, evD_app]
      exact tpAll_app (TpAll.tk (Same.tk s4a) _ _ te) (.cons (tp_cl (sa _ _ (s5 _ _ g4))) .nil)
  | mp xs =>
    obtain ⟨d, rfl⟩ : ∃ d', d = d' + 1 := by
      cases d with
      | zero => exact (show False from gf).elim
      | succ d => exact ⟨d, rfl⟩
    have gf : xs.length ≤ 49 ∧ (xs.map (·.1)).Pairwise (fun x y => HT.lexLt x y = true) ∧ (∀ e ∈ xs, Kp e.1) ∧ gfM d xs := gf
    have hs : 1 + vszM xs ≤ 7000 := hs
    obtain ⟨a, b, ws, rfl, ha, hb, hw⟩ := tp_mp tp
    have hwl : ws.length = xs.length := by rw [tpAll_len hw, datM_map, List.length_map]
    walk_at "rf"
    refine r_ixT (SqT.of ha) (atI_nat (j := 0) rfl) ?_
    walk_at "rf"
    refine r_iteN (show ¬ ("map" : Str) = "list" by decide +kernel) ?_
    walk_at "rf"
    refine r_ixT (SqT.of ha) (atI_nat (j := 0) rfl) ?_
    walk_at "rf"
    refine r_ite (fun _ => ?_) (fun c => absurd rfl c)
    walk_at "rf"
    refine ⟨by show 2 ≤ sizeLine; decide, fun q1 H1 n1 g1 s1 => ?_⟩
    walk_at "rf"
    refine ⟨by show 1 ≤ sizeLine; decide, fun q2 H2 n2 g2 s2 => ?_⟩
    have s12 := s1.trans s2
    have L2 := L.same s12
    have q2s := (L.same s1).ne_free n2
    walk_at "rf"
    refine r_ixT (SqT.of (s12 _ _ ha)) (atI_nat (j := 1) rfl) ?_
    walk_at "rf"
    refine ⟨_, _, rfl, S, l, b, ws, rfl, rfl, s12 _ _ hb, by omega, L2, fun q ys H3 pm nq qs gq L3 k3 => ?_⟩
    obtain ⟨zs, pz, tz⟩ := tpM_perm pm xs hw
    have zl : ys.length = zs.length := by rw [tpAll_len tz, datM_map, List.length_map]
    have zm : vszM zs = vszM xs := vszM_perm pz
    have k03 := (Keep.of s12).trans k3
    walk_at "rf"
    refine ⟨q, rfl, ⟨ys, SqL.of gq⟩, ?_⟩
    refine r_eachL (xs := ys) (fun i σ H' => LB K S l H' ∧ Keep S H H' ∧ H' q = some (.lst ys) ∧ ∃ (p : Addr) (vs : List V) (es : List Ev) (y3 : Option V), EvRM (zs.take i) es ∧ es.length ≤ 2 * vszM (zs.take i) ∧ H p = none ∧ p ≠ S.a ∧ H' p = some (.lst vs) ∧ TpAll H' vs (evD (.op true :: es)) ∧ σ = [some (.ref S.a), some (.ref a), some (.ref p), none, y3]) ⟨L3, k03, gq, q2, _, [], _, .nil, Nat.zero_le _, s1.free n2, q2s, k3 _ _ q2s g2, .cons (Tp.tk (keep_tk L2.ls k3) _ _ (.tup (s2 _ _ g1) (.cons (.str _) (.cons (.str _) .nil)))) .nil, rfl⟩ (fun i σ H' hh => SqL.of hh.2.2.1) ?_ ?_
    · rintro i x σ H4 hx ⟨L4, k4, gq4, p, vs, es, y3, er, el, np, ps, g4, te, rfl⟩
      have hi : i < ys.length := (List.getElem?_eq_some_iff.mp hx).1
      have hx2 : zs[i]? = some zs[i] := List.getElem?_eq_getElem (by omega)
      obtain ⟨dd, e1, e2⟩ := tpAll_get tz hx
      generalize hze : zs[i] = ze at hx2
      obtain ⟨kk, zv⟩ := ze
      have tx : Tp H x (.tuple [kd kk, zv.dat]) := by
        rw [datM_map, List.getElem?_map, hx2] at e1
        cases e1
        exact e2
      have hm : (kk, zv) ∈ zs := List.mem_of_getElem? hx2
      have et : zs.take (i + 1) = zs.take i ++ [(kk, zv)] := take_one hx2
      have b1 := vszM_take zs (i + 1)
      rw [et, vszM_snoc] at b1
      have gz : zv.gf d := gfM_mem gf.2.2.2 (kk, zv) (pz.mem_iff.mp hm)
      have vl : vs.length = es.length + 1 := by
        have := tpAll_len te
        rw [evD_len] at this
        exact this
      obtain ⟨t0, q0, u, rfl, ht0, hq0, tu⟩ := tp_en (Tp.tk (keep_tk L.ls k4) _ _ tx)
      walk_at "rf"
      refine r_ixT (SqT.of ht0) (atI_nat (j := 0) rfl) ?_
      walk_at "rf"
      refine ⟨by show 2 ≤ sizeLine; decide, fun q5 H5 n5 g5 s5 => ?_⟩
      walk_at "rf"
      refine ⟨by show 1 ≤ sizeLine; decide, fun q6 H6 n6 g6 s6 => ?_⟩
      have s46 := s5.trans s6
      refine r_catV (s46 _ _ g4) g6 (by show _ + 1 ≤ _; omega) fun q7 H7 n7 g7 s7 => ?_
      have s47 := s46.trans s7
      have L6 := L4.same s46
      have q7s := L6.ne_free n7
      have L7 := L6.same s7
      walk_at "rf"
      refine r_ixT (SqT.of (s47 _ _ ht0)) (atI_nat (j := 1) rfl) ?_
      walk_at "rf"
      refine ⟨_, _, rfl, S, l, zv, d, rfl, Tp.tk (Same.tk s47) _ _ tu, gz, by omega, L7, by omega, fun p9 vs9 es9 H9 r9 l9 n9 ne9 g9 t9 L9 k9 => ?_⟩
      have vl9 : vs9.length = es9.length := by
        have := tpAll_len t9
        rw [evD_len] at this
        exact this
      have k49 : Keep S H4 H9 := (Keep.of s47).trans k9
      refine r_catV (k9 _ _ q7s g7) g9 (by rw [List.length_append]; show _ + 1 + _ ≤ _; omega) fun pa Ha na ga sa => ?_
      walk_at "rf"
      refine ⟨L9.same sa, (k4.trans k49).trans (Keep.of sa), sa _ _ (k49 _ _ qs gq4), pa, _, es ++ [.ky kk] ++ es9, _, (by rw [et, List.append_assoc]; exact er.snoc r9), ?_, (k4.trans k49).free L9.ls na, L9.ne_free na, ga, ?_, rfl⟩
      · rw [et, vszM_snoc, List.length_append, List.length_append]
        show _ + 1 + _ ≤ _
        omega
      · rw [← List.cons_append, ← List.cons_append, evD_app, evD_app]
        have tk9 := (keep_tk L7.ls k9).trans (Same.tk sa)
        refine tpAll_app (tpAll_app (TpAll.tk ((Same.tk s47).trans tk9) _ _ te) (.cons (Tp.tk tk9 _ _ (.tup (s7 _ _ (s6 _ _ g5)) (.cons (.str _) (.cons (tp_kd (s47 _ _ hq0)) .nil)))) .nil)) (TpAll.tk (Same.tk sa) _ _ t9)
    · rintro σ H3' ⟨L3, k3, gq3, p, vs, es, y3, er, el, np, ps, g3, te, rfl⟩
      rw [zl, List.take_length] at er el
      rw [zm] at el
      have vl : vs.length = es.length + 1 := by
        have := tpAll_len te
        rw [evD_len] at this
        exact this
      walk_at "rf"
      refine ⟨by show 1 ≤ sizeLine; decide, fun q4 H4 n4 g4 s4 => ?_⟩
      walk_at "rf"
      refine ⟨by show 1 ≤ sizeLine; decide, fun q5 H5 n5 g5 s5 => ?_⟩
      have s45 := s4.trans s5
      refine r_catV (s45 _ _ g3) g5 (by show _ + 1 ≤ _; omega) fun pa Ha na ga sa => ?_
      have s4a := s45.trans sa
      refine h pa _ (.op true :: (es ++ [.cl])) Ha (.mp pz er) (by rw [List.length_cons, List.length_append]; show _ + 1 + 1 ≤ 2 * (1 + vszM xs); omega) ((k3.trans (Keep.of s45)).free (L3.same s45).ls na) ((L3.same s45).ne_free na) ga ?_ (L3.same s4a) (k3.trans (Keep.of s4a))
      rw [← List.cons_append, evD_app]
      exact tpAll_app (TpAll.tk (Same.tk s4a) _ _ te) (.cons (tp_cl (sa _ _ (s5 _ _ g4))) .nil)
theorem rec__law_events (F : FunD K "_law_events" "_law_events" (defArgs s__law_events) (defBody s__law_events) (defScope s__law_events) [] [] (glAd "_law_events" K) fd) (m : mg "_law_events" = some (.ref (glAd "_law_events" K))) (nb : Nm K mg) (c__law_mixed : Cal P w K mg base 2 "_law_mixed" (sp__law_mixed K) []) : ∀ n, Cal P w K mg base (3 + n) "_law_events" (sp__law_events K n) []
  | 0 => calD (k := 2) F m sc__law_events (fun _ _ _ _ _ _ us hl => match us, hl with | [_, _], _ => rfl) (fun _ _ _ _ h => (no__law_events h).elim) (fun _ _ _ _ _ _ _ _ _ h => (no__law_events h).elim)
  | n + 1 => ok__law_events n F m nb c__law_mixed (rec__law_events F m nb c__law_mixed n)
end

/-! ### data that the law compares -/
/-- data of tuples, none of them too long -/
def Short : PyData → Prop
  | .bool _ => True
  | .int _ => True
  | .str x => PyData.canLay0 (.str x) = true
  | .tuple ds => ds.length ≤ 16777000 ∧ shortAll ds
  | _ => False
where shortAll : List PyData → Prop
  | [] => True
  | d :: ds => Short d ∧ shortAll ds
theorem short_mem : ∀ {ds : List PyData} {i : Nat} {e : PyData}, Short.shortAll ds → ds[i]? = some e → Short e
  | [], _, _, _, h => by simp at h
  | d :: ds, 0, e, hs, h => by
    cases (show some d = some e from h)
    exact hs.1
  | d :: ds, i + 1, e, hs, h => short_mem (ds := ds) (i := i) hs.2 (by simpa using h)
theorem short_ints : ∀ k : List Int, Short.shortAll (k.map PyData.int)
  | [] => trivial
  | _ :: k => ⟨trivial, short_ints k⟩
def EvS (e : Ev) : Prop := Short e.dat ∧ e.dat.depth ≤ 3
theorem sh_kd {k : List Int} (h : k.length ≤ 16777000) : Short (kd k) := ⟨by rw [List.length_map]; exact h, short_ints k⟩
theorem ev_depth_by {os : List Int} (h : os.length ≤ 300) : EvS (.lf "bytes" [kd os]) := by
  refine ⟨⟨by show 2 ≤ _; decide, (by show PyData.canLay0 (.str "leaf") = true; decide +kernel), ⟨by show 2 ≤ _; decide, (by show PyData.canLay0 (.str "bytes") = true; decide +kernel), sh_kd (by omega), trivial⟩, trivial⟩, ?_⟩
  have := depth_kd1 os
  simp [Ev.dat, PyData.depth, PyData.depthAll]
  omega
theorem ev_depth_op (m : Bool) : EvS (.op m) := by
  refine ⟨⟨by show 2 ≤ _; decide, (by show PyData.canLay0 (.str "open") = true; decide +kernel), ?_, trivial⟩, by simp [Ev.dat, PyData.depth, PyData.depthAll]⟩
  cases m
  · show PyData.canLay0 (.str "list") = true
    decide +kernel
  · show PyData.canLay0 (.str "map") = true
    decide +kernel
theorem ev_depth_cl : EvS .cl := ⟨⟨by show 1 ≤ _; decide, (by show PyData.canLay0 (.str "close") = true; decide +kernel), trivial⟩, by simp [Ev.dat, PyData.depth, PyData.depthAll]⟩

/-! ### the law's comparison of data -/

/-- v is this data, read so deep at most -/
def Ld : Nat → Hp → V → PyData → Prop
  | 0, _, _, _ => False
  | n + 1, H, v, d => match d with
    | .bool b => v = .bl b
    | .int i => v = .int i
    | .str x => v = .str x ∧ PyData.canLay0 (.str x) = true
    | .tuple ds => ∃ a xs, v = .ref a ∧ H a = some (.tup xs) ∧ xs.length = ds.length ∧ xs.length ≤ 16777000 ∧ ∀ (i : Nat) x e, xs[i]? = some x → ds[i]? = some e → Ld n H x e
    | .list ds => ∃ a xs, v = .ref a ∧ H a = some (.lst xs) ∧ xs.length = ds.length ∧ xs.length ≤ 16777000 ∧ ∀ (i : Nat) x e, xs[i]? = some x → ds[i]? = some e → Ld n H x e
    | _ => False
theorem Ld.same {H H' : Hp} (s : Same H H') : ∀ {n : Nat} {v : V} {d : PyData}, Ld n H v d → Ld n H' v d
  | 0, _, _, h => h.elim
  | n + 1, v, d, h => by
    cases d with
    | bool b => exact h
    | int i => exact h
    | str x => exact h
    | tuple ds =>
      obtain ⟨a, xs, e, h1, h2, h3, h4⟩ := h
      exact ⟨a, xs, e, s _ _ h1, h2, h3, fun i x e a b => Ld.same s (h4 i x e a b)⟩
    | list ds =>
      obtain ⟨a, xs, e, h1, h2, h3, h4⟩ := h
      exact ⟨a, xs, e, s _ _ h1, h2, h3, fun i x e a b => Ld.same s (h4 i x e a b)⟩
    | _ => exact h.elim
theorem depthAll_mem : ∀ {ds : List PyData} {i : Nat} {e : PyData}, ds[i]? = some e → e.depth ≤ PyData.depthAll ds
  | [], _, _, h => by simp at h
  | d :: ds, 0, e, h => by
    cases (show some d = some e from h)
    show _ ≤ max d.depth (PyData.depthAll ds)
    exact Nat.le_max_left _ _
  | d :: ds, i + 1, e, h => by
    have := depthAll_mem (ds := ds) (i := i) (by simpa using h)
    show _ ≤ max d.depth (PyData.depthAll ds)
    exact Nat.le_trans this (Nat.le_max_right _ _)
theorem tp_ld : ∀ {n : Nat} {H : Hp} {v : V} {d : PyData}, Tp H v d → Short d → d.depth < n → Ld n H v d
  | 0, _, _, _, _, _, h => absurd h (Nat.not_lt_zero _)
  | n + 1, H, v, d, h, hs, hd => by
    cases h with
    | non => exact hs.elim
    | bl b => rfl
    | int i => rfl
    | str x => exact ⟨rfl, hs⟩
    | tup ha hx =>
      rename_i a xs ds
      have hs : ds.length ≤ 16777000 ∧ Short.shortAll ds := hs
      have hd : PyData.depthAll ds + 1 < n + 1 := hd
      refine ⟨a, xs, rfl, ha, tpAll_len hx, by rw [tpAll_len hx]; exact hs.1, fun i x e h1 h2 => ?_⟩
      obtain ⟨e', h3, h4⟩ := tpAll_get hx h1
      rw [h2] at h3
      cases h3
      exact tp_ld h4 (short_mem hs.2 h2) (by have := depthAll_mem h2; omega)
def sp__law_same (K : Frg) (n : Nat) : Sp := sp2 fun a b H Q _ => ∃ d, Ld n H a d ∧ Ld n H b d ∧ ∀ H', Same H H' → Q (.bl true) H'
theorem no__law_same {K : Frg} {vs : List V} {H : Hp} {Q : VK} {E : XK} (h : sp__law_same K 0 vs H Q E) : False := by
  obtain ⟨_, _, rfl, d, h, _⟩ := h
  exact h
section
variable {P : Program} {w : World} {K : PySem.W.Frag} {mg : Str → Option Value} {base : Heap} {f : Addr} {fd : FuncData}
theorem ok__law_same (n : Nat) (F : FunD K "_law_same" "_law_same" (defArgs s__law_same) (defBody s__law_same) (defScope s__law_same) [] [] (glAd "_law_same" K) fd) (m : mg "_law_same" = some (.ref (glAd "_law_same" K))) (nb : Nm K mg) (c__law_same : Cal P w K mg base (1 + n) "_law_same" (sp__law_same K n) []) : Cal P w K mg base (1 + n + 1) "_law_same" (sp__law_same K (n + 1)) [] := by
  refine calD F m sc__law_same (fun _ _ _ _ _ _ us hl => match us, hl with | [_, _], _ => rfl) len2 (fun cdv A outer s H vs Q E hr h => ⟨_, (pss_cons (ps_if (PW.pt (pw_or (pt_val (pe_callB call_isi (by rfl) nb.isinstance (by decide +kernel) (pa_cons (pv 1) (pa_cons (pe_bltn (v := .ty "tuple") (u := .type "tuple") (by rfl) nb.tuple (by decide +kernel) rfl) pa_nil)))) (pw_or1 (pt_val (pe_callB call_isi (by rfl) nb.isinstance (by decide +kernel) (pa_cons (pv 1) (pa_cons (pe_bltn (v := .ty "list") (u := .type "list") (by rfl) nb.list (by decide +kernel) rfl) pa_nil)))))))
    (pss_cons (ps_if (PW.pt (pw_or (pt_cmpR op_ne (pe_callB call_isi (by rfl) nb.isinstance (by decide +kernel) (pa_cons (pv 0) (pa_cons (pe_bltn (v := .ty "tuple") (u := .type "tuple") (by rfl) nb.tuple (by decide +kernel) rfl) pa_nil))) (pe_callB call_isi (by rfl) nb.isinstance (by decide +kernel) (pa_cons (pv 1) (pa_cons (pe_bltn (v := .ty "tuple") (u := .type "tuple") (by rfl) nb.tuple (by decide +kernel) rfl) pa_nil))) (nomark _)) (pw_or1 (pt_cmpR op_ne (pe_callB call_isi (by rfl) nb.isinstance (by decide +kernel) (pa_cons (pv 0) (pa_cons (pe_bltn (v := .ty "list") (u := .type "list") (by rfl) nb.list (by decide +kernel) rfl) pa_nil))) (pe_callB call_isi (by rfl) nb.isinstance (by decide +kernel) (pa_cons (pv 1) (pa_cons (pe_bltn (v := .ty "list") (u := .type "list") (by rfl) nb.list (by decide +kernel) rfl) pa_nil))) (nomark _)))))
    (pss_one (ps_ret pe_bl))
    pss_nil)
    (pss_cons (ps_if (pt_cmpR op_ne (pe_callB call_len_seq (by rfl) nb.len PySem.boot_len (pa_cons (pv 0) pa_nil)) (pe_callB call_len_seq (by rfl) nb.len PySem.boot_len (pa_cons (pv 1) pa_nil)) (nomark _))
    (pss_one (ps_ret pe_bl))
    pss_nil)
    (pss_cons (ps_for PassesOwn.never rfl (pi_range1 rfl nb.range (pa_cons (pe_callB call_len_seq (by rfl) nb.len PySem.boot_len (pa_cons (pv 1) pa_nil)) pa_nil)) (pg_name (i := 2) sc__law_same.nd rfl (Or.inl rfl))
    (pss_one (ps_if (pt_not (pt_val (pe_c c__law_same hr (by omega) rfl (pa_cons (pe_ix ix_seq (pv 0) (pv 2) (fun _ _ => rfl)) (pa_cons (pe_ix ix_seq (pv 1) (pv 2) (fun _ _ => rfl)) pa_nil)))))
    (pss_one (ps_ret pe_bl))
    pss_nil)))
    (pss_one (ps_ret pe_bl)))))
    pss_nil)
    (pss_cons (ps_if (PW.pt (pw_or (pt_val (pe_callB call_isi (by rfl) nb.isinstance (by decide +kernel) (pa_cons (pv 0) (pa_cons (pe_bltn (v := .ty "bool") (u := .type "bool") (by rfl) nb.bool (by decide +kernel) rfl) pa_nil)))) (pw_or1 (pt_val (pe_callB call_isi (by rfl) nb.isinstance (by decide +kernel) (pa_cons (pv 1) (pa_cons (pe_bltn (v := .ty "bool") (u := .type "bool") (by rfl) nb.bool (by decide +kernel) rfl) pa_nil)))))))
    (pss_one (ps_ret (pe_and (pe_callB call_isi (by rfl) nb.isinstance (by decide +kernel) (pa_cons (pv 0) (pa_cons (pe_bltn (v := .ty "bool") (u := .type "bool") (by rfl) nb.bool (by decide +kernel) rfl) pa_nil))) (pe_and (pe_callB call_isi (by rfl) nb.isinstance (by decide +kernel) (pa_cons (pv 1) (pa_cons (pe_bltn (v := .ty "bool") (u := .type "bool") (by rfl) nb.bool (by decide +kernel) rfl) pa_nil))) (pe_one (pe_cmpR (op_eqD hr.units) (pv 0) (pv 1) (nomark _)))))))
    pss_nil)
    (pss_cons (ps_if (pt_val (pe_callB call_isi (by rfl) nb.isinstance (by decide +kernel) (pa_cons (pv 1) (pa_cons (pe_bltn (v := .ty "str") (u := .type "str") (by rfl) nb.str (by decide +kernel) rfl) pa_nil))))
    (pss_one (ps_ret (pe_and (pe_callB call_isi (by rfl) nb.isinstance (by decide +kernel) (pa_cons (pv 0) (pa_cons (pe_bltn (v := .ty "str") (u := .type "str") (by rfl) nb.str (by decide +kernel) rfl) pa_nil))) (pe_one (pe_cmpR (op_eqD hr.units) (pv 0) (pv 1) (nomark _))))))
    pss_nil)
    (pss_one (ps_ret (pe_and (pe_callB call_isi (by rfl) nb.isinstance (by decide +kernel) (pa_cons (pv 0) (pa_cons (pe_bltn (v := .ty "int") (u := .type "int") (by rfl) nb.int (by decide +kernel) rfl) pa_nil))) (pe_one (pe_cmpR (op_eqD hr.units) (pv 0) (pv 1) (nomark _))))))))), ?_⟩)
  obtain ⟨a, b, rfl, d, ha, hb, hQ⟩ := h
  cases d with
  | bool x =>
    have ha : a = .bl x := ha
    have hb : b = .bl x := hb
    subst ha hb
    walk_at "rf"
    refine r_isi (b := false) (.base (.bl x)) (by decide +kernel) ?_
    walk_at "rf"
    refine r_isi (b := false) (.base (.bl x)) (by decide +kernel) ?_
    walk_at "rf"
    refine r_isi (b := true) (.base (.bl x)) (by decide +kernel) ?_
    walk_at "rf"
    refine r_isi (b := true) (.base (.bl x)) (by decide +kernel) ?_
    walk_at "rf"
    refine r_isi (b := true) (.base (.bl x)) (by decide +kernel) ?_
    walk_at "rf"
    refine r_eqDs (d := .bool x) (.bl x) (.bl x) (by cases x <;> rfl) ?_
    exact hQ H (Same.refl H)
  | int x =>
    have ha : a = .int x := ha
    have hb : b = .int x := hb
    subst ha hb
    walk_at "rf"
    refine r_isi (b := false) (.base (.int x)) (by decide +kernel) ?_
    walk_at "rf"
    refine r_isi (b := false) (.base (.int x)) (by decide +kernel) ?_
    walk_at "rf"
    refine r_isi (b := false) (.base (.int x)) (by decide +kernel) ?_
    walk_at "rf"
    refine r_isi (b := false) (.base (.int x)) (by decide +kernel) ?_
    walk_at "rf"
    refine r_isi (b := false) (.base (.int x)) (by decide +kernel) ?_
    walk_at "rf"
    refine r_isi (b := true) (.base (.int x)) (by decide +kernel) ?_
    walk_at "rf"
    refine r_eqDs (d := .int x) (.int x) (.int x) (by rfl) ?_
    exact hQ H (Same.refl H)
  | str x =>
    obtain ⟨ha, hx⟩ : a = .str x ∧ _ := ha
    have hb : b = .str x := hb.1
    subst ha hb
    walk_at "rf"
    refine r_isi (b := false) (.base (.str x)) (by decide +kernel) ?_
    walk_at "rf"
    refine r_isi (b := false) (.base (.str x)) (by decide +kernel) ?_
    walk_at "rf"
    refine r_isi (b := false) (.base (.str x)) (by decide +kernel) ?_
    walk_at "rf"
    refine r_isi (b := false) (.base (.str x)) (by decide +kernel) ?_
    walk_at "rf"
    refine r_isi (b := true) (.base (.str x)) (by decide +kernel) ?_
    walk_at "rf"
    refine r_isi (b := true) (.base (.str x)) (by decide +kernel) ?_
    walk_at "rf"
    refine r_eqDs (d := .str x) (.str x) (.str x) (by unfold SeqAt.shaped; rw [hx]; rfl) ?_
    exact hQ H (Same.refl H)
  | tuple ds =>
    obtain ⟨p, xs, rfl, hp, lp, sp, ep⟩ := ha
    obtain ⟨q, ys, rfl, hq, lq, sq, eq⟩ := hb
    walk_at "rf"
    refine r_isi (b := true) (.base (.tup hq)) (by decide +kernel) ?_
    walk_at "rf"
    refine r_isi (b := true) (.base (.tup hp)) (by decide +kernel) ?_
    walk_at "rf"
    refine r_isi (b := true) (.base (.tup hq)) (by decide +kernel) ?_
    walk_at "rf"
    refine r_neB ?_
    walk_at "rf"
    refine r_no (show (true : Bool) = true from rfl) ?_
    walk_at "rf"
    refine r_isi (b := false) (.base (.tup hp)) (by decide +kernel) ?_
    walk_at "rf"
    refine r_isi (b := false) (.base (.tup hq)) (by decide +kernel) ?_
    walk_at "rf"
    refine r_neB ?_
    walk_at "rf"
    refine r_no (show (false : Bool) = false from rfl) ?_
    walk_at "rf"
    refine ⟨p, _, rfl, .inr (SqT.of hp), ?_⟩
    walk_at "rf"
    refine ⟨q, _, rfl, .inr (SqT.of hq), ?_⟩
    walk_at "rf"
    refine r_no (by omega) ?_
    walk_at "rf"
    refine ⟨q, _, rfl, .inr (SqT.of hq), ?_⟩
    walk_at "rf"
    refine r_turns (by omega) (by omega) (fun i σ H' => Same H H' ∧ ∃ y : Option V, σ = [some (.ref p), some (.ref q), y]) ⟨Same.refl H, none, rfl⟩ ?_ ?_
    · rintro i σ H2 hi ⟨s2, y, rfl⟩
      have hi1 : i < xs.length := by omega
      have hi2 : i < ys.length := by omega
      have hi3 : i < ds.length := by omega
      walk_at "rf"
      refine .inr (.inl (r_ixT (SqT.of (s2 _ _ hp)) (atI_nat (List.getElem?_eq_getElem hi1)) ?_))
      walk_at "rf"
      refine .inr (.inl (r_ixT (SqT.of (s2 _ _ hq)) (atI_nat (List.getElem?_eq_getElem hi2)) ?_))
      walk_at "rf"
      refine ⟨_, _, rfl, ds[i], (ep i _ _ (List.getElem?_eq_getElem hi1) (List.getElem?_eq_getElem hi3)).same s2, (eq i _ _ (List.getElem?_eq_getElem hi2) (List.getElem?_eq_getElem hi3)).same s2, fun H3 s3 => ⟨true, rfl, ?_⟩⟩
      walk_at "rf"
      exact ⟨s2.trans s3, _, rfl⟩
    · rintro σ H2 ⟨s2, y, rfl⟩
      walk_at "rf"
      exact hQ H2 s2
  | list ds =>
    obtain ⟨p, xs, rfl, hp, lp, sp, ep⟩ := ha
    obtain ⟨q, ys, rfl, hq, lq, sq, eq⟩ := hb
    walk_at "rf"
    refine r_isi (b := false) (.base (.lst hq)) (by decide +kernel) ?_
    walk_at "rf"
    refine r_isi (b := true) (.base (.lst hq)) (by decide +kernel) ?_
    walk_at "rf"
    refine r_isi (b := false) (.base (.lst hp)) (by decide +kernel) ?_
    walk_at "rf"
    refine r_isi (b := false) (.base (.lst hq)) (by decide +kernel) ?_
    walk_at "rf"
    refine r_neB ?_
    walk_at "rf"
    refine r_no (show (false : Bool) = false from rfl) ?_
    walk_at "rf"
    refine r_isi (b := true) (.base (.lst hp)) (by decide +kernel) ?_
    walk_at "rf"
    refine r_isi (b := true) (.base (.lst hq)) (by decide +kernel) ?_
    walk_at "rf"
    refine r_neB ?_
    walk_at "rf"
    refine r_no (show (true : Bool) = true from rfl) ?_
    walk_at "rf"
    refine ⟨p, _, rfl, .inl (SqL.of hp), ?_⟩
    walk_at "rf"
    refine ⟨q, _, rfl, .inl (SqL.of hq), ?_⟩
    walk_at "rf"
    refine r_no (by omega) ?_
    walk_at "rf"
    refine ⟨q, _, rfl, .inl (SqL.of hq), ?_⟩
    walk_at "rf"
    refine r_turns (by omega) (by omega) (fun i σ H' => Same H H' ∧ ∃ y : Option V, σ = [some (.ref p), some (.ref q), y]) ⟨Same.refl H, none, rfl⟩ ?_ ?_
    · rintro i σ H2 hi ⟨s2, y, rfl⟩
      have hi1 : i < xs.length := by omega
      have hi2 : i < ys.length := by omega
      have hi3 : i < ds.length := by omega
      walk_at "rf"
      refine .inl (r_ixL (SqL.of (s2 _ _ hp)) (atI_nat (List.getElem?_eq_getElem hi1)) ?_)
      walk_at "rf"
      refine .inl (r_ixL (SqL.of (s2 _ _ hq)) (atI_nat (List.getElem?_eq_getElem hi2)) ?_)
      walk_at "rf"
      refine ⟨_, _, rfl, ds[i], (ep i _ _ (List.getElem?_eq_getElem hi1) (List.getElem?_eq_getElem hi3)).same s2, (eq i _ _ (List.getElem?_eq_getElem hi2) (List.getElem?_eq_getElem hi3)).same s2, fun H3 s3 => ⟨true, rfl, ?_⟩⟩
      walk_at "rf"
      exact ⟨s2.trans s3, _, rfl⟩
    · rintro σ H2 ⟨s2, y, rfl⟩
      walk_at "rf"
      exact hQ H2 s2
  | _ => exact ha.elim
theorem rec__law_same (F : FunD K "_law_same" "_law_same" (defArgs s__law_same) (defBody s__law_same) (defScope s__law_same) [] [] (glAd "_law_same" K) fd) (m : mg "_law_same" = some (.ref (glAd "_law_same" K))) (nb : Nm K mg) : ∀ n, Cal P w K mg base (1 + n) "_law_same" (sp__law_same K n) []
  | 0 => calD (k := 0) F m sc__law_same (fun _ _ _ _ _ _ us hl => match us, hl with | [_, _], _ => rfl) (fun _ _ _ _ h => (no__law_same h).elim) (fun _ _ _ _ _ _ _ _ _ h => (no__law_same h).elim)
  | n + 1 => ok__law_same n F m nb (rec__law_same F m nb n)
end

/-! ### values of bencode, as values -/
theorem lb_lf {k : Str} {r : List PyData} (h : Lb k r) : Lf k r := by
  cases h with
  | number m e h hm => exact .number m e
  | bytes os h => exact .bytes os h
theorem lb_short {k : Str} {r : List PyData} (h : Lb k r) : Short (.tuple (.str k :: r)) := by
  cases h with
  | number m e h hm => exact ⟨by show 3 ≤ _; decide, (by show PyData.canLay0 (.str "number") = true; decide +kernel), trivial, trivial, trivial⟩
  | bytes os h => exact ⟨by show 2 ≤ _; decide, (by show PyData.canLay0 (.str "bytes") = true; decide +kernel), sh_kd (by omega), trivial⟩
mutual
theorem bf_ok : ∀ (n : Nat) (t : Vl), t.bf n → t.ok n
  | n, .lf k r, h => by
    have q : Lf k r := lb_lf (show Lb k r by cases n <;> exact h)
    cases n <;> exact q
  | 0, .ls xs, h => h.elim
  | n + 1, .ls xs, h => ⟨h.1, bfL_ok n xs h.2⟩
  | 0, .mp es, h => h.elim
  | n + 1, .mp es, h => ⟨h.1, h.2.1, fun e he => (h.2.2.1 e he).1, bfM_ok n es h.2.2.2⟩
theorem bfL_ok : ∀ (n : Nat) (xs : List Vl), bfL n xs → vokL n xs
  | _, [], _ => trivial
  | n, x :: xs, h => ⟨bf_ok n x h.1, bfL_ok n xs h.2⟩
theorem bfM_ok : ∀ (n : Nat) (es : List (List Int × Vl)), bfM n es → vokM n es
  | _, [], _ => trivial
  | n, (_, v) :: es, h => ⟨bf_ok n v h.1, bfM_ok n es h.2⟩
end
mutual
theorem bf_short : ∀ (n : Nat) (t : Vl), t.bf n → Short t.dat
  | n, .lf k r, h => lb_short (show Lb k r by cases n <;> exact h)
  | 0, .ls xs, h => h.elim
  | n + 1, .ls xs, h => by
    have h : xs.length ≤ 49 ∧ bfL n xs := h
    have q := bfL_short n xs h.2
    refine ⟨by show 2 ≤ _; decide, lay_list, ⟨?_, q⟩, trivial⟩
    rw [datL_map, List.length_map]
    omega
  | 0, .mp es, h => h.elim
  | n + 1, .mp es, h => by
    have h : es.length ≤ 49 ∧ (es.map (·.1)).Pairwise (fun x y => HT.lexLt x y = true) ∧ (∀ e ∈ es, Kp e.1) ∧ bfM n es := h
    have q := bfM_short n es h.2.2.1 h.2.2.2
    refine ⟨by show 2 ≤ _; decide, lay_map, ⟨?_, q⟩, trivial⟩
    rw [datM_map, List.length_map]
    omega
theorem bfL_short : ∀ (n : Nat) (xs : List Vl), bfL n xs → Short.shortAll (datL xs)
  | _, [], _ => trivial
  | n, x :: xs, h => ⟨bf_short n x h.1, bfL_short n xs h.2⟩
theorem bfM_short : ∀ (n : Nat) (es : List (List Int × Vl)), (∀ e ∈ es, Kp e.1) → bfM n es → Short.shortAll (datM es)
  | _, [], _, _ => trivial
  | n, (k, v) :: es, hk, h => by
    have k1 : k.length ≤ 200 := (hk (k, v) (List.mem_cons_self ..)).1
    exact ⟨⟨by show 2 ≤ _; decide, sh_kd (by omega), bf_short n v h.1, trivial⟩, bfM_short n es (fun e he => hk e (List.mem_cons_of_mem _ he)) h.2⟩
end
theorem bf_ld {n m : Nat} {H : Hp} {v : V} {t : Vl} (h : t.bf n) (hm : 3 * n + 2 < m) (tp : Tp H v t.dat) : Ld m H v t.dat := tp_ld tp (bf_short n t h) (Nat.lt_of_le_of_lt (vl_depth n t (bf_ok n t h)) hm)
theorem ld_ints {H : Hp} {a : Addr} {xs : List Int} {n : Nat} (h : H a = some (.lst (xs.map V.int))) (hl : xs.length ≤ 16777000) : Ld (n + 2) H (.ref a) (.list (xs.map PyData.int)) := by
  refine ⟨a, _, rfl, h, by rw [List.length_map, List.length_map], by rw [List.length_map]; exact hl, fun i x e h1 h2 => ?_⟩
  rw [List.getElem?_map] at h1 h2
  obtain ⟨y, hy, rfl⟩ := Option.map_eq_some_iff.mp h1
  rw [hy] at h2
  cases h2
  rfl

/-! ### an event taken, or what is lacking told -/

def sp__law_taken (K : Frg) : Sp := sp2 fun p v H Q _ => ∃ (a b : Addr) (m : Nat) (e : Ev), p = .ref a ∧ BlA K H a b m ∧ Tp H v e.dat ∧ NumE e ∧ (lackE e = true → ∀ T H', H' T = some (.tup [.str "lacks", .int (m : Nat)]) → Ch [] H H' → Q (.ref T) H') ∧ (lackE e = false → EvB e ∧ ∀ (q : Addr) (H' : Hp), H q = none → H' q = some (.lst ((bO e).map V.int)) → BlA K H' a b (m + cntE e) → Ch [a, b] H H' → Q (.ref q) H')
section
variable {P : Program} {w : World} {K : PySem.W.Frag} {mg : Str → Option Value} {base : Heap} {f : Addr} {fd : FuncData}
theorem ok__law_taken (F : FunD K "_law_taken" "_law_taken" (defArgs s__law_taken) (defBody s__law_taken) (defScope s__law_taken) [] [] (glAd "_law_taken" K) fd) (m : mg "_law_taken" = some (.ref (glAd "_law_taken" K))) (nb : Nm K mg) (z_AlikeError : Raz P w K mg base "AlikeError" (C_AlikeError K) "what") (m_BencodeLoose_take : MetX P w K mg base 5 (C_BencodeLoose K) "take" (sp_BencodeLoose_take K)) : Cal P w K mg base 6 "_law_taken" (sp__law_taken K) [] := by
  refine calD F m sc__law_taken (fun _ _ _ _ _ _ us hl => match us, hl with | [_, _], _ => rfl) len2 (fun cdv A outer s H vs Q E hr h => ⟨_, (pss_one (ps_try_asE (i := 2) (Wout := fun _ _ _ _ => False) rfl rfl sc__law_taken.nd rfl rfl ⟨rfl, by decide, .inl nb.g_AlikeError⟩ takes0 (fun W pn xe tk pw => ⟨_, (pss_one (ps_ret (pe_mtX m_BencodeLoose_take hr (by decide) tk (pv 0) (pa_cons (pv 1) pa_nil)))), rfl⟩)
    (fun a oe cls d pn hz hf => ⟨_, (pss_cons (ps_if (PW.pt (pw_or (pt_val (pe_callB (call_isX hz hf) (by rfl) nb.isinstance (by decide +kernel) (pa_cons (pv 2) (pa_cons (pe_gc (v := .ref (C_Unreadable K)) rfl ⟨_, nb.g_Unreadable, rfl⟩) pa_nil)))) (pw_or (pt_val (pe_callB (call_isX hz hf) (by rfl) nb.isinstance (by decide +kernel) (pa_cons (pv 2) (pa_cons (pe_gc (v := .ref (C_Doubled K)) rfl ⟨_, nb.g_Doubled, rfl⟩) pa_nil)))) (pw_or1 (pt_not (pt_val (pe_callB (call_isX hz hf) (by rfl) nb.isinstance (by decide +kernel) (pa_cons (pv 2) (pa_cons (pe_gc (v := .ref (C_Unwritable K)) rfl ⟨_, nb.g_Unwritable, rfl⟩) pa_nil)))))))))
    (pss_one (ps_ret (pe_lstE (pa_cons pe_str pa_nil))))
    pss_nil)
    (pss_one (ps_ret (pe_tupE (pa_cons pe_str (pa_cons (pe_xf nb.x_Unwritable.xf nb.x_Unwritable.no hz hf (pv 2)) pa_nil)))))), rfl⟩))), ?_⟩)
  obtain ⟨_, v, rfl, a, b, m, e, rfl, hS, he, hn, hl, hq⟩ := h
  -- 0:writer 1:event 2:e
  obtain ⟨dx, hA, hB, hN⟩ := id hS
  walk_at "rf"
  refine ⟨_, _, rfl, a, b, m, e, rfl, hS, he, hn, fun z d H1 hd c => ⟨true, nb.e_Unwritable_AlikeError, fun x hx => ?_, fun q => Bool.noConfusion q⟩, fun z => ⟨(hq z).1, fun q H' n g S c => ?_⟩⟩
  · dsimp only
    intro _
    walk_at "rf"
    refine ⟨_, _, d, _, false, rfl, rfl, rfl, hd, nb.y_Unwritable, nb.i_Unwritable_Unreadable, ?_⟩
    walk_at "rf"
    refine ⟨_, _, d, _, false, rfl, rfl, rfl, hd, nb.y_Unwritable, nb.i_Unwritable_Doubled, ?_⟩
    walk_at "rf"
    refine ⟨_, _, d, _, true, rfl, rfl, rfl, hd, nb.y_Unwritable, nb.i_Unwritable_Unwritable, ?_⟩
    walk_at "rf"
    refine ⟨rfl, d, _, _, rfl, hd, lk_hit _ _ _, ?_⟩
    walk_at "rf"
    refine ⟨by show 2 ≤ sizeLine; decide, fun T H2 nT gT s2 => ?_⟩
    exact hl z T H2 gT (Ch.same s2 c)
  · walk_at "rf"
    exact (hq z).2 q H' n g S c
end

/-! ### rows of octets, and where the writers stand -/
/-- rows of numbers, none of them at M -/
def RwAt (M : List Addr) (H : Hp) (rs : List Addr) (xss : List (List Int)) : Prop := rs.length = xss.length ∧ ∀ (j : Nat) (r : Addr) (x : List Int), rs[j]? = some r → xss[j]? = some x → r ∉ M ∧ H r = some (.lst (x.map V.int))
theorem RwAt.ch {M o : List Addr} {H H' : Hp} {rs : List Addr} {xss : List (List Int)} (h : RwAt M H rs xss) (c : Ch o H H') (m : ∀ x ∈ o, x ∈ M ∨ H x = none) : RwAt M H' rs xss := ⟨h.1, fun j r x a b => by
  obtain ⟨h1, h2⟩ := h.2 j r x a b
  refine ⟨h1, c.get (fun z => ?_) h2⟩
  rcases m r z with q | q
  · exact h1 q
  · rw [h2] at q
    cases q⟩
theorem RwAt.snoc {M : List Addr} {H : Hp} {rs : List Addr} {xss : List (List Int)} {r : Addr} {x : List Int} (h : RwAt M H rs xss) (n : r ∉ M) (g : H r = some (.lst (x.map V.int))) : RwAt M H (rs ++ [r]) (xss ++ [x]) := by
  refine ⟨by rw [List.length_append, List.length_append, h.1]; rfl, fun j r' x' a b => ?_⟩
  by_cases c : j < rs.length
  · rw [List.getElem?_append_left c] at a
    rw [List.getElem?_append_left (by rw [← h.1]; exact c)] at b
    exact h.2 j r' x' a b
  · rw [List.getElem?_append_right (by omega)] at a
    rw [List.getElem?_append_right (by rw [← h.1]; omega), ← h.1] at b
    have e : j - rs.length = 0 := by
      have := (List.getElem?_eq_some_iff.mp a).1
      have : ([r] : List Addr).length = 1 := rfl
      omega
    rw [e] at a b
    cases a
    cases b
    exact ⟨n, g⟩
theorem ld_rws {M : List Addr} {H : Hp} {q : Addr} {rs : List Addr} {xss : List (List Int)} {n : Nat} (hq : H q = some (.lst (rs.map V.ref))) (h : RwAt M H rs xss) (hl : rs.length ≤ 16000000) (hx : ∀ x ∈ xss, x.length ≤ 16000000) : Ld (n + 3) H (.ref q) (.list (xss.map fun x => .list (x.map PyData.int))) := by
  refine ⟨q, _, rfl, hq, by rw [List.length_map, List.length_map, h.1], by rw [List.length_map]; omega, fun i v d h1 h2 => ?_⟩
  rw [List.getElem?_map] at h1 h2
  obtain ⟨r, hr, rfl⟩ := Option.map_eq_some_iff.mp h1
  obtain ⟨x, hx2, rfl⟩ := Option.map_eq_some_iff.mp h2
  exact ld_ints (h.2 i r x hr hx2).2 (by have := hx x (List.mem_of_getElem? hx2); omega)
theorem BlA.ch {K : Frg} {H H' : Hp} {a b : Addr} {m : Nat} {o : List Addr} (h : BlA K H a b m) (c : Ch o H H') (na : a ∉ o) (nb : b ∉ o) : BlA K H' a b m := by
  obtain ⟨dx, h1, h2, h4⟩ := h
  exact ⟨dx, c.get na h1, h2.get c nb, h4⟩
theorem BlA.same {K : Frg} {H H' : Hp} {a b : Addr} {m : Nat} (h : BlA K H a b m) (c : Same H H') : BlA K H' a b m := h.ch (Ch.same (o := []) c Ch.refl) (by simp) (by simp)
theorem BlA.live {K : Frg} {H : Hp} {a b : Addr} {m : Nat} (h : BlA K H a b m) : ∀ x ∈ [a, b], ∃ u, H x = some u := fun x hx => by
  obtain ⟨dx, h1, ⟨dy, h2⟩, _⟩ := h
  simp only [List.mem_cons, List.not_mem_nil, or_false] at hx
  rcases hx with e | e <;> rw [e]
  · exact ⟨_, h1⟩
  · exact ⟨_, h2⟩
theorem BlA.nd {K : Frg} {H : Hp} {a b : Addr} {m : Nat} (h : BlA K H a b m) : [a, b].Nodup := by
  obtain ⟨_, _, _, h⟩ := h
  exact h
theorem d_bl {K : Frg} {H : Hp} {R : Addr → Hp → Prop} {E : XK} (h : ∀ a b H', H a = none → H b = none → BlA K H' a b 0 → Same H H' → R a H') : ∀ x dx, H x = none → H dx = none → dx ≠ x → sp_BencodeLoose___init__ K (.ref x :: ([] ++ [])) (upd (upd H dx (.own x)) x (.ins (C_BencodeLoose K) dx [])) (fun v H2 => v = .non ∧ R x H2) E := fun a dx ha hd hne =>
  ⟨_, rfl, a, dx, rfl, upd_same, fun b H' nb hN c => ⟨rfl, h a b H' ha (mk_free nb) hN (mk_same ha hd c)⟩⟩
/-- how many values begin -/
def cntS (es : List Ev) : Nat := (es.map cntE).sum
theorem cntS_take {es : List Ev} {j : Nat} {e : Ev} (h : es[j]? = some e) : cntS (es.take (j + 1)) = cntS (es.take j) + cntE e := by
  unfold cntS
  rw [take_one h, List.map_append, List.sum_append_nat]
  rfl
/-- what the events of a value are like -/
def EvG : Ev → Prop
  | .lf k r => Lg k r
  | .ky k => Kp k
  | _ => True
theorem evG_num {e : Ev} (h : EvG e) : NumE e := by
  cases e with
  | lf k r => exact num_lb h
  | _ => trivial
theorem evG_b {e : Ev} (h : EvG e) (z : lackE e = false) : EvB e := by
  cases e with
  | lf k r => exact lg_lb h z
  | ky k => exact h
  | _ => trivial
theorem evG_all : ∀ (n : Nat) (t : Vl) (es : List Ev), t.gf n → EvR t es → ∀ e ∈ es, EvG e := by
  have ls : ∀ (n : Nat), (∀ (t : Vl) (es : List Ev), t.gf n → EvR t es → ∀ e ∈ es, EvG e) → ∀ (xs : List Vl) (es : List Ev), gfL n xs → EvRL xs es → ∀ e ∈ es, EvG e := by
    intro n ih xs
    induction xs with
    | nil =>
      intro es _ h e he
      cases h
      cases he
    | cons x xs IH =>
      intro es g h e he
      cases h with
      | cons h1 h2 =>
        rcases List.mem_append.mp he with q | q
        · exact ih x _ g.1 h1 e q
        · exact IH _ g.2 h2 e q
  have mp : ∀ (n : Nat), (∀ (t : Vl) (es : List Ev), t.gf n → EvR t es → ∀ e ∈ es, EvG e) → ∀ (xs : List (List Int × Vl)) (es : List Ev), (∀ x ∈ xs, x.2.gf n ∧ Kp x.1) → EvRM xs es → ∀ e ∈ es, EvG e := by
    intro n ih xs
    induction xs with
    | nil =>
      intro es _ h e he
      cases h
      cases he
    | cons x xs IH =>
      intro es g h e he
      cases h with
      | cons h1 h2 =>
        rcases List.mem_cons.mp he with q | q
        · rw [q]
          exact (g _ (List.mem_cons_self ..)).2
        · rcases List.mem_append.mp q with q | q
          · exact ih _ _ (g _ (List.mem_cons_self ..)).1 h1 e q
          · exact IH _ (fun y hy => g y (List.mem_cons_of_mem _ hy)) h2 e q
  have fr : ∀ {o : Ev} {es : List Ev}, EvG o → (∀ e ∈ es, EvG e) → ∀ e ∈ o :: (es ++ [.cl]), EvG e := fun ho h e he => by
    rcases List.mem_cons.mp he with q | q
    · rw [q]; exact ho
    · rcases List.mem_append.mp q with q | q
      · exact h e q
      · rw [List.mem_singleton.mp q]
        trivial
  intro n
  induction n with
  | zero =>
    intro t es g r
    cases r with
    | lf => exact fun e he => by rw [List.mem_singleton.mp he]; exact g
    | ls h => exact (show False from g).elim
    | mp p h => exact (show False from g).elim
  | succ n ih =>
    intro t es g r
    cases r with
    | lf => exact fun e he => by rw [List.mem_singleton.mp he]; exact g
    | ls h => exact fr trivial (ls n ih _ _ g.2 h)
    | mp p h => exact fr trivial (mp n ih _ _ (fun x hx => ⟨gfM_mem g.2.2.2 x (p.mem_iff.mp hx), g.2.2.1 x (p.mem_iff.mp hx)⟩) h)
def tkE (e : Ev) : Tk2 := (bO e, e)
/-- nothing lacks: a value of bencode, and its text -/
theorem to_tks : ∀ (n : Nat) (t : Vl) (es : List Ev), t.gf n → EvR t es → (∀ e ∈ es, lackE e = false) → t.bf n ∧ Tks t (es.map tkE) := by
  have lf : ∀ (n : Nat) (k : Str) (r : List PyData), Lg k r → lackE (.lf k r) = false → (Vl.lf k r).bf n ∧ Tks (.lf k r) ([.lf k r].map tkE) := by
    intro n k r g h
    have lb := lg_lb g h
    refine ⟨by cases n <;> exact lb, ?_⟩
    cases lb with
    | number m e _ _ => exact .num m e
    | bytes os _ =>
      show Tks _ [(lfO "bytes" [kd os], _)]
      rw [lfO_bytes]
      exact .bytes os
  have ls : ∀ (n : Nat), (∀ (t : Vl) (es : List Ev), t.gf n → EvR t es → (∀ e ∈ es, lackE e = false) → t.bf n ∧ Tks t (es.map tkE)) → ∀ (xs : List Vl) (es : List Ev), gfL n xs → EvRL xs es → (∀ e ∈ es, lackE e = false) → bfL n xs ∧ TksL xs (es.map tkE) := by
    intro n ih xs
    induction xs with
    | nil =>
      intro es _ h _
      cases h
      exact ⟨trivial, .nil⟩
    | cons x xs IH =>
      intro es g h hl
      cases h with
      | cons h1 h2 =>
        obtain ⟨a1, a2⟩ := ih x _ g.1 h1 fun e he => hl e (List.mem_append_left _ he)
        obtain ⟨b1, b2⟩ := IH _ g.2 h2 fun e he => hl e (List.mem_append_right _ he)
        rw [List.map_append]
        exact ⟨⟨a1, b1⟩, .cons a2 b2⟩
  have mp : ∀ (n : Nat), (∀ (t : Vl) (es : List Ev), t.gf n → EvR t es → (∀ e ∈ es, lackE e = false) → t.bf n ∧ Tks t (es.map tkE)) → ∀ (xs : List (List Int × Vl)) (es : List Ev), (∀ x ∈ xs, x.2.gf n) → EvRM xs es → (∀ e ∈ es, lackE e = false) → (∀ x ∈ xs, x.2.bf n) ∧ TksM xs (es.map tkE) := by
    intro n ih xs
    induction xs with
    | nil =>
      intro es _ h _
      cases h
      exact ⟨fun x hx => (by cases hx), .nil⟩
    | cons x xs IH =>
      intro es g h hl
      cases h with
      | cons h1 h2 =>
        obtain ⟨a1, a2⟩ := ih _ _ (g _ (List.mem_cons_self ..)) h1 fun e he => hl e (List.mem_cons_of_mem _ (List.mem_append_left _ he))
        obtain ⟨b1, b2⟩ := IH _ (fun y hy => g y (List.mem_cons_of_mem _ hy)) h2 fun e he => hl e (List.mem_cons_of_mem _ (List.mem_append_right _ he))
        rw [List.map_cons, List.map_append]
        refine ⟨fun y hy => ?_, .cons a2 b2⟩
        rcases List.mem_cons.mp hy with q | q
        · rw [q]; exact a1
        · exact b1 y q
  intro n
  induction n with
  | zero =>
    intro t es g r hl
    cases r with
    | lf => exact lf 0 _ _ g (hl _ (by simp))
    | ls h => exact (show False from g).elim
    | mp p h => exact (show False from g).elim
  | succ n ih =>
    intro t es g r hl
    cases r with
    | lf => exact lf _ _ _ g (hl _ (by simp))
    | ls h =>
      obtain ⟨a1, a2⟩ := ls n ih _ _ g.2 h fun e he => hl e (List.mem_cons_of_mem _ (List.mem_append_left _ he))
      rw [List.map_cons, List.map_append]
      exact ⟨⟨g.1, a1⟩, .ls a2⟩
    | mp p h =>
      obtain ⟨a1, a2⟩ := mp n ih _ _ (fun x hx => gfM_mem g.2.2.2 x (p.mem_iff.mp hx)) h fun e he => hl e (List.mem_cons_of_mem _ (List.mem_append_left _ he))
      rw [List.map_cons, List.map_append]
      exact ⟨⟨g.1, g.2.1, g.2.2.1, bfM_of fun e he => a1 e (p.mem_iff.mpr he)⟩, .mp p a2⟩
theorem oct_tkE (es : List Ev) : octT (es.map tkE) = (es.map bO).flatten := by
  unfold octT
  rw [List.flatMap_def, List.map_map]
  rfl
theorem bO_len {e : Ev} (h : EvB e) : (bO e).length ≤ 2000 := by
  have sl : ∀ os : List Int, os.length ≤ 900 → (strO os).length ≤ 2000 := fun os ho => by
    have dl : (dg os.length).length ≤ 5 := dg_lenP (Nat.lt_of_le_of_lt ho (by decide : 900 < 10 ^ 4))
    unfold strO asc
    rw [List.length_append, List.length_append, List.length_map]
    show _ + 1 + _ ≤ 2000
    omega
  cases e with
  | op m => show 1 ≤ 2000; decide
  | cl => show 1 ≤ 2000; decide
  | ky k =>
    have := len_encs k
    have h : k.length ≤ 200 := h.1
    exact sl _ (by omega)
  | lf k r =>
    cases h with
    | number m e nf hm =>
      show (numO m e).length ≤ 2000
      have h1 := dg_lenP hm
      have h2 : e.toNat ≤ 800 := by
        rcases nf with ⟨_, h⟩ | h
        · omega
        · omega
      unfold numO asc
      rw [List.length_append, List.length_append, List.length_map, List.length_append, List.length_append, List.length_replicate]
      have : (if m < 0 then [45] else ([] : List Nat)).length ≤ 1 := by split <;> simp
      show 1 + _ + 1 ≤ 2000
      omega
    | bytes os ho =>
      show (lfO "bytes" [kd os]).length ≤ 2000
      rw [lfO_bytes]
      exact sl _ (by omega)
theorem flat_small {xss : List (List Int)} (h : ∀ x ∈ xss, x.length ≤ 2000) : xss.flatten.length ≤ 2000 * xss.length := by
  induction xss with
  | nil => exact Nat.le_refl _
  | cons x xss ih =>
    have h1 := h x (by simp)
    have h2 := ih fun y hy => h y (List.mem_cons_of_mem _ hy)
    rw [List.flatten_cons, List.length_append, List.length_cons]
    omega
theorem rows_take {es : List Ev} {j : Nat} {e : Ev} (h : es[j]? = some e) : (es.take (j + 1)).map bO = (es.take j).map bO ++ [bO e] := by
  rw [take_one h, List.map_append]
  rfl
def kindE : Ev → Str
  | .op _ => "open"
  | .ky _ => "key"
  | .lf _ _ => "leaf"
  | .cl => "close"
theorem ev_kind {H : Hp} {v : V} {e : Ev} (h : Tp H v e.dat) : ∃ p ws, v = .ref p ∧ H p = some (.tup (.str (kindE e) :: ws)) := by
  cases e with
  | op m => obtain ⟨p, rfl, hp⟩ := ev_op h; exact ⟨p, _, rfl, hp⟩
  | ky k => obtain ⟨p, u, rfl, hp, _⟩ := ev_ky h; exact ⟨p, _, rfl, hp⟩
  | lf k r => obtain ⟨p, q, xs, rfl, hp, _⟩ := ev_lf h; exact ⟨p, _, rfl, hp⟩
  | cl => obtain ⟨p, rfl, hp⟩ := ev_cl h; exact ⟨p, _, rfl, hp⟩
theorem kind_cnt (e : Ev) : (decide (kindE e = "open") || decide (kindE e = "leaf")) = decide (cntE e = 1) := by
  cases e with
  | op m => exact (by decide +kernel : (decide (("open" : Str) = "open") || decide (("open" : Str) = "leaf")) = true)
  | ky k => exact (by decide +kernel : (decide (("key" : Str) = "open") || decide (("key" : Str) = "leaf")) = false)
  | lf k r => exact (by decide +kernel : (decide (("leaf" : Str) = "open") || decide (("leaf" : Str) = "leaf")) = true)
  | cl => exact (by decide +kernel : (decide (("close" : Str) = "open") || decide (("close" : Str) = "leaf")) = false)
theorem cnt_two (e : Ev) : cntE e = 0 ∨ cntE e = 1 := by cases e <;> simp [cntE]
/-- where all stands behind k events -/
def Lp (K : Frg) (M : List Addr) (a1 b1 a2 b2 pR pK : Addr) (es : List Ev) (k : Nat) (H : Hp) (po : Addr) : Prop :=
  BlA K H a1 b1 (cntS (es.take k)) ∧ BlA K H a2 b2 (cntS (es.take ((k + 1) / 2))) ∧ po ∉ M ∧ H po = some (.lst (((es.take k).map bO).flatten.map V.int)) ∧
  ∃ rs ks, RwAt M H rs ((es.take k).map bO) ∧ RwAt M H ks ((es.take k).map bO) ∧ H pR = some (.lst (rs.map V.ref)) ∧ H pK = some (.lst (ks.map V.ref))
theorem nd_new {H : Hp} {A B : List Addr} (ha : A.Nodup) (hb : B.Nodup) (la : ∀ x ∈ A, ∃ u, H x = some u) (fb : ∀ x ∈ B, H x = none) : (A ++ B).Nodup := List.nodup_append.mpr ⟨ha, hb, fun a h1 b h2 e => by
  obtain ⟨u, hu⟩ := la a h1
  rw [e, fb b h2] at hu
  cases hu⟩
theorem lv_app {H H' : Hp} {A B : List Addr} (la : ∀ x ∈ A, ∃ u, H x = some u) (s : Same H H') (lb : ∀ x ∈ B, ∃ u, H' x = some u) : ∀ x ∈ A ++ B, ∃ u, H' x = some u := fun x hx => by
  rcases List.mem_append.mp hx with q | q
  · obtain ⟨u, hu⟩ := la x q
    exact ⟨u, s _ _ hu⟩
  · exact lb x q
theorem lv_one {H : Hp} {p : Addr} {u : HO} (h : H p = some u) : ∀ x ∈ [p], ∃ u, H x = some u := fun x hx => by
  rw [List.mem_singleton.mp hx]
  exact ⟨_, h⟩
theorem ld_lacks {H : Hp} {T : Addr} {m : Int} {n : Nat} (h : H T = some (.tup [.str "lacks", .int m])) : Ld (n + 2) H (.ref T) (.tuple [.str "lacks", .int m]) := by
  refine ⟨T, _, rfl, h, rfl, by show 2 ≤ _; decide, fun i y e h1 h2 => ?_⟩
  match i, h1, h2 with
  | 0, h1, h2 =>
    cases h1
    cases h2
    exact ⟨rfl, by show PyData.canLay0 (.str "lacks") = true; decide +kernel⟩
  | 1, h1, h2 =>
    cases h1
    cases h2
    rfl
  | i + 2, h1, _ => simp at h1
theorem live6 {K : Frg} {H : Hp} {a1 b1 a2 b2 pR pK : Addr} {s t : Nat} {u2 u3 : HO} (S1 : BlA K H a1 b1 s) (S2 : BlA K H a2 b2 t) (g2 : H pR = some u2) (g3 : H pK = some u3) : ∀ x ∈ [a1, b1, a2, b2, pR, pK], ∃ u, H x = some u := fun x hx => by
  have e : [a1, b1, a2, b2, pR, pK] = ([a1, b1] ++ [a2, b2]) ++ ([pR] ++ [pK]) := rfl
  rw [e] at hx
  rcases List.mem_append.mp hx with q | q
  · rcases List.mem_append.mp q with q | q
    · exact S1.live x q
    · exact S2.live x q
  · rcases List.mem_append.mp q with q | q
    · exact lv_one g2 x q
    · exact lv_one g3 x q
theorem not_live {H : Hp} {M : List Addr} (h : ∀ x ∈ M, ∃ u, H x = some u) {q : Addr} (n : H q = none) : q ∉ M := fun z => by
  obtain ⟨u, hu⟩ := h q z
  rw [n] at hu
  cases hu
/-- an if whose test is known, and makes new things alone -/
theorem r_ifS {σ : St} {H : Hp} {D : Ends} {tt : TT} {t u : TS} (b : Bool) (ht : ∀ R : Bool → Hp → Prop, (∀ H1, Same H H1 → R b H1) → tt σ H R) (h : ∀ H1, Same H H1 → if b = true then t D σ H1 else u D σ H1) : tIfS tt t u D σ H := ht _ h

/-! ### the law -/

section
variable {P : Program} {w : World} {K : PySem.W.Frag} {mg : Str → Option Value} {base : Heap} {f : Addr} {fd : FuncData}
theorem ok_law (F : FunD K "law" "law" (defArgs s_law) (defBody s_law) (defScope s_law) [] [] (glAd "law" K) fd) (nb : Nm K mg) (k_BencodeLoose : Mak P w K mg base 3 "BencodeLoose" (C_BencodeLoose K) (sp_BencodeLoose___init__ K) []) (c__law_cell : Cal P w K mg base 1 "_law_cell" (sp__law_cell K) []) (c__law_state : Cal P w K mg base 2 "_law_state" (sp__law_state K) []) (c__law_next : Cal P w K mg base 1 "_law_next" (sp__law_next K) []) (c__law_value : Cal P w K mg base 10 "_law_value" (sp__law_value K 5) []) (c__law_towered : Cal P w K mg base 2 "_law_towered" (sp__law_towered K) []) (c__law_same : Cal P w K mg base 91 "_law_same" (sp__law_same K 90) []) (c__law_events : Cal P w K mg base 33 "_law_events" (sp__law_events K 30) []) (c__law_lacks : Cal P w K mg base 1 "_law_lacks" (sp__law_lacks K) []) (c__law_kinds : Cal P w K mg base 2 "_law_kinds" (sp__law_kinds K) []) (c__law_taken : Cal P w K mg base 6 "_law_taken" (sp__law_taken K) []) (c__law_read : Cal P w K mg base 11 "_law_read" (sp__law_read K) []) (c__law_due : Cal P w K mg base 4 "_law_due" (sp__law_due K) []) : FnOk P w K mg base CX0 92 (glAd "law" K) fd ["script"] (sp_law K) := by
  refine fnD F sc_law len1 (fun cdv A outer s H vs Q E hr h => ⟨_, (pss_cons (ps_set (i := 1) sc_law.nd rfl (Or.inl rfl) (pe_c c__law_state hr (by decide) rfl (pa_cons (pv 0) (pa_cons (pe_op op_add pe_int (pe_op op_mod (pe_callTy call_int1 (by rfl) nb.int (by decide +kernel) (pa_cons (pe_callB call_abs (by rfl) nb.abs (by decide +kernel) (pa_cons (pe_c c__law_cell hr (by decide) rfl (pa_cons (pv 0) (pa_cons pe_int pa_nil))) pa_nil)) pa_nil)) pe_int)) pa_nil))))
    (pss_cons (ps_set (i := 2) sc_law.nd rfl (Or.inl rfl) (pe_lstE (pa_cons pe_str (pa_cons pe_str pa_nil))))
    (pss_cut (ps_if (pt_cmpR op_eq (pe_c c__law_next hr (by decide) rfl (pa_cons (pv 1) (pa_cons pe_int pa_nil))) pe_int (nomark _))
    (pss_one (ps_set (i := 2) sc_law.nd rfl (Or.inl rfl) (pe_c c__law_kinds hr (by decide) rfl (pa_cons (pv 1) pa_nil))))
    pss_nil)
    (pss_cons (ps_set (i := 3) sc_law.nd rfl (Or.inl rfl) (pe_c c__law_towered hr (by decide) rfl (pa_cons (pv 1) (pa_cons (pe_c c__law_value hr (by decide) rfl (pa_cons (pv 1) (pa_cons pe_int (pa_cons (pv 2) (pa_cons pe_bl pa_nil))))) (pa_cons pe_bl pa_nil)))))
    (pss_cons (ps_set (i := 4) sc_law.nd rfl (Or.inl rfl) (pe_c c__law_events hr (by decide) rfl (pa_cons (pv 1) (pa_cons (pv 3) pa_nil))))
    (pss_cons (ps_set (i := 5) sc_law.nd rfl (Or.inl rfl) (pe_mk0 k_BencodeLoose hr (by decide) rfl))
    (pss_cons (ps_set (i := 6) sc_law.nd rfl (Or.inl rfl) (pe_mk0 k_BencodeLoose hr (by decide) rfl))
    (pss_cons (ps_set (i := 7) sc_law.nd rfl (Or.inl rfl) (pe_lstE pa_nil))
    (pss_cons (ps_set (i := 8) sc_law.nd rfl (Or.inl rfl) (pe_lstE pa_nil))
    (pss_cons (ps_set (i := 9) sc_law.nd rfl (Or.inl rfl) (pe_lstE pa_nil))
    (pss_cons (ps_set (i := 10) sc_law.nd rfl (Or.inl rfl) pe_int)
    (pss_cons (ps_for PassesOwn.never rfl (pi_range1 rfl nb.range (pa_cons (pe_callB call_len_seq (by rfl) nb.len PySem.boot_len (pa_cons (pv 4) pa_nil)) pa_nil)) (pg_name (i := 11) sc_law.nd rfl (Or.inl rfl))
    (pss_cons (ps_set (i := 12) sc_law.nd rfl (Or.inl rfl) (pe_ix ix_list (pv 4) (pv 11) (fun _ _ => rfl)))
    (pss_cons (ps_set (i := 13) sc_law.nd rfl (Or.inl rfl) (pe_c c__law_taken hr (by decide) rfl (pa_cons (pv 5) (pa_cons (pv 12) pa_nil))))
    (pss_cons (ps_if (PW.pt (pw_and (pt_cmpR op_eq (pe_ix ix_tup (pv 12) pe_int (fun _ _ => rfl)) pe_str (nomark _)) (pw_and1 (pt_val (pe_c c__law_lacks hr (by decide) rfl (pa_cons (pe_ix ix_tup (pv 12) pe_int (fun _ _ => rfl)) pa_nil))))))
    (pss_one (ps_ret (pe_c c__law_same hr (by decide) rfl (pa_cons (pv 13) (pa_cons (pe_tupE (pa_cons pe_str (pa_cons (pv 10) pa_nil))) pa_nil)))))
    pss_nil)
    (pss_cons (ps_set (i := 10) sc_law.nd rfl (Or.inl rfl) (pe_op op_add (pv 10) (pe_callTy call_int1 (by rfl) nb.int (by decide +kernel) (pa_cons (pe_cmpR op_in_seq (pe_ix ix_tup (pv 12) pe_int (fun _ _ => rfl)) (pe_lstE (pa_cons pe_str (pa_cons pe_str pa_nil))) rfl) pa_nil))))
    (pss_cons (ps_set (i := 14) sc_law.nd rfl (Or.inl rfl) (pe_c c__law_due hr (by decide) rfl (pa_cons (pv 12) pa_nil)))
    (pss_cons (ps_expr (pe_bm PySem.F.plainAttrs_list PySem.F.slot_list_append PySem.F.type_list_append mt_append (pv 8) (pa_cons (pv 14) pa_nil)))
    (pss_cons (ps_if (pt_not (pt_val (pe_c c__law_same hr (by decide) rfl (pa_cons (pv 13) (pa_cons (pv 14) pa_nil)))))
    (pss_one (ps_ret pe_bl))
    pss_nil)
    (pss_cons (ps_expr (pe_bm PySem.F.plainAttrs_list PySem.F.slot_list_append PySem.F.type_list_append mt_append (pv 9) (pa_cons (pv 13) pa_nil)))
    (pss_cons (ps_set (i := 7) sc_law.nd rfl (Or.inl rfl) (pe_op op_cat (pv 7) (pv 14)))
    (pss_one (ps_if (pt_cmpR op_eq (pe_op op_mod (pe_callTy call_int1 (by rfl) nb.int (by decide +kernel) (pa_cons (pv 11) pa_nil)) pe_int) pe_int (nomark _))
    (pss_cons (ps_set (i := 15) sc_law.nd rfl (Or.inl rfl) (pe_c c__law_taken hr (by decide) rfl (pa_cons (pv 6) (pa_cons (pe_ix ix_list (pv 4) (pe_op op_fdiv (pv 11) pe_int) (fun _ _ => rfl)) pa_nil))))
    (pss_cons (ps_if (pt_not (pt_val (pe_c c__law_same hr (by decide) rfl (pa_cons (pv 15) (pa_cons (pe_ix ix_list (pv 8) (pe_op op_fdiv (pv 11) pe_int) (fun _ _ => rfl)) pa_nil)))))
    (pss_one (ps_ret pe_bl))
    pss_nil)
    (pss_one (ps_expr (pe_bm PySem.F.plainAttrs_list PySem.F.slot_list_append PySem.F.type_list_append mt_append (pv 15) (pa_cons pe_int pa_nil))))))
    pss_nil))))))))))))
    (pss_one (ps_ret (pe_and (pe_c c__law_same hr (by decide) rfl (pa_cons (pv 9) (pa_cons (pv 8) pa_nil))) (pe_one (pe_c c__law_same hr (by decide) rfl (pa_cons (pe_c c__law_read hr (by decide) rfl (pa_cons (pv 7) pa_nil)) (pa_cons (pv 3) pa_nil))))))))))))))))))), ?_⟩)
  obtain ⟨_, rfl, sl, ns, rfl, hs, h⟩ := h
  -- 0:script 1:state 2:kinds 3:value 4:events 5:writer 6:other 7:octets 8:rows 9:kept 10:begun 11:k 12:event 13:told 14:due 15:half
  walk_at "rf"
  refine ⟨_, _, rfl, sl, ns, 0, rfl, rfl, hs, by decide, fun z => ?_⟩
  walk_at "rf"
  refine ⟨_, _, rfl, sl, ns, 8 + (z.natAbs : Int) % 30, rfl, by congr 2; split <;> omega, hs, fun S H1 eS1 eS2 L1 s1 nS => ?_⟩
  walk_at "rf"
  refine ⟨by show 2 ≤ sizeLine; decide, fun p2 H2 n2 g2 s2 => ?_⟩
  have g2 : H2 p2 = some (.lst ((["number", "bytes"] : List Str).map V.str)) := g2
  have L2 := L1.same s2
  have p2s := L1.ne_free n2
  have ko : KsOk ["number", "bytes"] := ⟨by decide, by decide, fun k hk => by
    simp only [List.mem_cons, List.not_mem_nil, or_false] at hk
    rcases hk with e | e <;> rw [e] <;> simp⟩
  walk_at "rf"
  refine r_cut (fun σ H' => LB K S (8 + (z.natAbs : Int) % 30) H' ∧ Keep S H1 H' ∧ ∃ (kl : Addr) (ks : List Str), KsOk ks ∧ kl ≠ S.a ∧ H' kl = some (.lst (ks.map V.str)) ∧ σ = [some (.ref sl), some (.ref S.a), some (.ref kl), none, none, none, none, none, none, none, none, none, none, none, none, none]) ?_ ?_
  · walk_at "rf"
    refine b_next L2 (by decide) fun r5 H5 a5 b5 L5 k5 => ?_
    have k5' := (Keep.of s2).trans k5
    walk_at "rf"
    refine r_ite (fun c => ?_) (fun c => ?_)
    · walk_at "rf"
      refine ⟨_, rfl, S, _, rfl, L5, fun q ks H6 ko6 qs gq L6 k6 => ?_⟩
      walk_at "rf"
      exact ⟨L6, k5'.trans k6, q, ks, ko6, qs, gq, rfl⟩
    · walk_at "rf"
      exact ⟨L5, k5', p2, _, ko, p2s, k5 _ _ p2s g2, rfl⟩
  clear L2 g2 s2 n2 p2s ko
  rintro σ H5 ⟨L5, k5, kl, ks, ko, kls, gk, rfl⟩
  walk_at "rf"
  refine ⟨_, _, _, _, rfl, S, _, 4, kl, _, true, rfl, rfl, rfl, rfl, kls, gk, ko, by decide, L5, fun v t l3 H10 gf bud tp L10 k10 => ?_⟩
  walk_at "rf"
  refine ⟨_, _, _, rfl, S, _, t, true, rfl, rfl, L10, tp, gf, fun v4 t4 n4 H11 hn4 gf4 sz4 tp4 L11 k11 => ?_⟩
  have vs4 : vsz t4 ≤ 4000 := by
    unfold Bud at bud
    omega
  walk_at "rf"
  refine ⟨_, _, rfl, S, _, t4, n4, rfl, tp4, gf4, by omega, L11, by omega, fun pE vs es H12 er el nE nES gE tE L12 k12 => ?_⟩
  have tp4 := Tp.tk (keep_tk L11.ls k12) _ _ tp4
  have ev := evG_all n4 t4 es gf4 er
  clear L5 k5 ko kls gk bud tp L10 k10 L11 k11 L12 k12 nE nES gf
  walk_at "rf"
  refine d_bl fun a1 b1 H13 na1 nb1 S1 s13 => ?_
  walk_at "rf"
  refine d_bl fun a2 b2 H14 na2 nb2 S2 s14 => ?_
  walk_at "rf"
  refine ⟨by show 0 ≤ sizeLine; decide, fun po H16 no go s16 => ?_⟩
  walk_at "rf"
  refine ⟨by show 0 ≤ sizeLine; decide, fun pR H17 nR gR s17 => ?_⟩
  walk_at "rf"
  refine ⟨by show 0 ≤ sizeLine; decide, fun pK H18 nK gK s18 => ?_⟩
  walk_at "rf"
  have s1218 := s13.trans (s14.trans (s16.trans (s17.trans s18)))
  have gE0 := gE
  have gE := s1218 _ _ gE0
  refine ⟨pE, _, rfl, .inl (SqL.of gE), ?_⟩
  have vl : vs.length = es.length := by rw [tpAll_len tE, evD_len]
  walk_at "rf"
  have tp4 := Tp.tk (Same.tk s1218) _ _ tp4
  have tE := TpAll.tk (Same.tk s1218) _ _ tE
  have fr2 : ∀ x ∈ [a2, b2], H13 x = none := fun x hx => by
    simp only [List.mem_cons, List.not_mem_nil, or_false] at hx
    rcases hx with e | e <;> rw [e] <;> assumption
  have one : ∀ {H : Hp} {p : Addr}, H p = none → ∀ x ∈ [p], H x = none := fun h x hx => by rw [List.mem_singleton.mp hx]; exact h
  have nd1_ : ∀ {p : Addr}, [p].Nodup := by simp
  have nd1 := nd_new S1.nd S2.nd S1.live fr2
  have lv1 := lv_app S1.live s14 S2.live
  have nd3 := nd_new nd1 nd1_ lv1 (one no)
  have lv3 := lv_app lv1 s16 (lv_one go)
  have nd4 := nd_new nd3 nd1_ lv3 (one nR)
  have hN := nd_new nd4 nd1_ (lv_app lv3 s17 (lv_one gR)) (one nK)
  simp only [List.cons_append, List.nil_append, List.nodup_cons, List.mem_cons, List.not_mem_nil, or_false, not_or, List.nodup_nil, and_true, not_false_eq_true] at hN
  have eE : pE ≠ a1 ∧ pE ≠ b1 ∧ pE ≠ a2 ∧ pE ≠ b2 ∧ pE ≠ pR ∧ pE ≠ pK := ⟨Same.ne na1 gE0, Same.ne nb1 gE0, Same.ne na2 (s13 _ _ gE0), Same.ne nb2 (s13 _ _ gE0), Same.ne nR (s16 _ _ (s14 _ _ (s13 _ _ gE0))), Same.ne nK (s17 _ _ (s16 _ _ (s14 _ _ (s13 _ _ gE0))))⟩
  have pEM : pE ∉ [a1, b1, a2, b2, pR, pK] := by
    simp only [List.mem_cons, List.not_mem_nil, or_false]
    grind
  have poM : po ∉ [a1, b1, a2, b2, pR, pK] := by
    simp only [List.mem_cons, List.not_mem_nil, or_false]
    grind
  have s1418 := s16.trans (s17.trans s18)
  refine r_turns (by omega) (by omega) (fun i σ H' => (∀ j < i, ∀ x, es[j]? = some x → lackE x = false) ∧ Ch [a1, b1, a2, b2, pR, pK] H18 H' ∧ ∃ (po : Addr) (y13 y14 y15 y16 y17 : Option V), Lp K [a1, b1, a2, b2, pR, pK] a1 b1 a2 b2 pR pK es i H' po ∧ σ = [some (.ref sl), some (.ref S.a), some (.ref kl), some v4, some (.ref pE), some (.ref a1), some (.ref a2), some (.ref po), some (.ref pR), some (.ref pK), some (.int (cntS (es.take i) : Nat)), y13, y14, y15, y16, y17]) ⟨fun j hj => absurd hj (Nat.not_lt_zero j), Ch.refl, po, _, _, _, _, _, ⟨S1.same (s14.trans s1418), S2.same s1418, poM, (s17.trans s18) _ _ go, [], [], ⟨rfl, fun j r x a => by simp at a⟩, ⟨rfl, fun j r x a => by simp at a⟩, s18 _ _ gR, gK⟩, rfl⟩ ?_ ?_
  · rintro i σ H' hi ⟨hq, c0, po, y13, y14, y15, y16, y17, ⟨S1, S2, poM, gpo, rs, ks', Rr, Rk, gR, gK⟩, rfl⟩
    have hi2 : i < es.length := by omega
    obtain ⟨e, hx⟩ : ∃ e, es[i]? = some e := ⟨_, List.getElem?_eq_getElem hi2⟩
    obtain ⟨v, hv⟩ : ∃ v, vs[i]? = some v := ⟨_, List.getElem?_eq_getElem (by omega)⟩
    have tv : Tp H18 v e.dat := by
      obtain ⟨d, h1, h2⟩ := tpAll_get tE hv
      unfold evD at h1
      rw [List.getElem?_map, hx] at h1
      cases h1
      exact h2
    have gE' := c0.get pEM gE
    have te := Tp.tk c0.tk _ _ tv
    have eg := ev e (List.mem_of_getElem? hx)
    walk_at "rf"
    refine r_ixL (SqL.of gE') (atI_nat hv) ?_
    walk_at "rf"
    refine ⟨_, _, rfl, a1, b1, _, e, rfl, S1, te, evG_num eg, fun z T H2 gT c2 => ?_, fun z => ?_⟩
    · cases e with
      | lf k r =>
        walk_at "rf"
        obtain ⟨pv, qv, xs, rfl, hpv, hqv, hxv⟩ := ev_lf (Tp.tk c2.tk _ _ te)
        refine r_ixT (SqT.of hpv) (atI_nat (j := 0) rfl) ?_
        walk_at "rf"
        refine r_ite (fun _ => ?_) (fun c => absurd rfl c)
        walk_at "rf"
        refine r_ixT (SqT.of hpv) (atI_nat (j := 1) rfl) ?_
        walk_at "rf"
        refine ⟨_, rfl, qv, k, xs, r, rfl, hqv, hxv, eg, fun H3 s3 => ⟨_, rfl, ?_⟩⟩
        rw [show lackK k r = true from z, if_pos rfl]
        walk_at "rf"
        refine ⟨by show 2 ≤ sizeLine; decide, fun q4 H4 n4 g4 s4 => ?_⟩
        walk_at "rf"
        exact ⟨_, _, rfl, _, ld_lacks ((s3.trans s4) _ _ gT), ld_lacks g4, fun H5 s5 => h _⟩
      | _ => exact absurd z (by show ¬ false = true; decide)
    have hq1 : ∀ j < i + 1, ∀ x, es[j]? = some x → lackE x = false := fun j hj x hx2 => by
      by_cases c : j < i
      · exact hq j c x hx2
      · have : j = i := by omega
        subst this
        rw [hx] at hx2
        cases hx2
        exact z
    have ok := evG_b eg z
    refine ⟨ok, fun q2 H2 n2 g2 S12 c2 => ?_⟩
    walk_at "rg"
    have M2 : Ch [a1, b1, a2, b2, pR, pK] H' H2 := c2.mono (by simp)
    refine r_ifS false (fun R hR => ?_) (fun H3 s3 => ?_)
    · have te2 := Tp.tk M2.tk _ _ te
      cases e with
      | lf k r =>
        obtain ⟨pv, qv, xs, rfl, hpv, hqv, hxv⟩ := ev_lf te2
        walk_at "rf"
        refine r_ixT (SqT.of hpv) (atI_nat (j := 0) rfl) ?_
        walk_at "rf"
        refine r_ite (fun _ => ?_) (fun c => absurd rfl c)
        walk_at "rf"
        refine r_ixT (SqT.of hpv) (atI_nat (j := 1) rfl) ?_
        walk_at "rf"
        refine ⟨_, rfl, qv, k, xs, r, rfl, hqv, hxv, eg, fun H3 s3 => ⟨_, rfl, ?_⟩⟩
        rw [show lackK k r = false from z]
        exact hR H3 s3
      | op m =>
        obtain ⟨pv, rfl, hpv⟩ := ev_op te2
        walk_at "rf"
        refine r_ixT (SqT.of hpv) (atI_nat (j := 0) rfl) ?_
        walk_at "rf"
        refine r_iteN (show ¬ ("open" : Str) = "leaf" by decide +kernel) ?_
        exact hR H2 (fun _ _ q => q)
      | ky k =>
        obtain ⟨pv, qv, rfl, hpv, _⟩ := ev_ky te2
        walk_at "rf"
        refine r_ixT (SqT.of hpv) (atI_nat (j := 0) rfl) ?_
        walk_at "rf"
        refine r_iteN (show ¬ ("key" : Str) = "leaf" by decide +kernel) ?_
        exact hR H2 (fun _ _ q => q)
      | cl =>
        obtain ⟨pv, rfl, hpv⟩ := ev_cl te2
        walk_at "rf"
        refine r_ixT (SqT.of hpv) (atI_nat (j := 0) rfl) ?_
        walk_at "rf"
        refine r_iteN (show ¬ ("close" : Str) = "leaf" by decide +kernel) ?_
        exact hR H2 (fun _ _ q => q)
    rw [if_neg (by decide)]
    walk_at "rf"
    have M3 : Ch [a1, b1, a2, b2, pR, pK] H' H3 := Ch.same s3 M2
    obtain ⟨pv, wv, rfl, hpv⟩ := ev_kind (Tp.tk M3.tk _ _ te)
    refine r_ixT (SqT.of hpv) (atI_nat (j := 0) rfl) ?_
    walk_at "rf"
    refine ⟨by show 2 ≤ sizeLine; decide, fun q6 H6 n6 g6 s6 => ?_⟩
    refine ⟨q6, _, rfl, .inl (SqL.of g6), rfl, rfl, ?_⟩
    rw [if_neg Bool.false_ne_true, in_two, kind_cnt]
    walk_at "rf"
    refine .inr ⟨_, rfl, ?_⟩
    walk_at "rf"
    have eb : ((cntS (es.take i) : Nat) : Int) + (if decide (cntE e = 1) = true then 1 else 0) = ((cntS (es.take (i + 1)) : Nat) : Int) := by
      rw [cntS_take hx]
      rcases cnt_two e with c | c <;> rw [c] <;> simp
    rw [eb]
    have M6 : Ch [a1, b1, a2, b2, pR, pK] H' H6 := Ch.same s6 M3
    have s26 := s3.trans s6
    have S12 := S12.same s26
    have S2_ := S2
    have gR_ := gR
    have gK_ := gK
    have S2 := (S2.ch c2 (by simp only [List.mem_cons, List.not_mem_nil, or_false]; grind) (by simp only [List.mem_cons, List.not_mem_nil, or_false]; grind)).same s26
    refine ⟨_, rfl, e, Tp.tk M6.tk _ _ te, ok, fun q7 H7 n7 g7 s7 => ?_⟩
    have M7 : Ch [a1, b1, a2, b2, pR, pK] H' H7 := Ch.same s7 M6
    have Rr := Rr.ch M7 fun x hx => .inl hx
    have Rk := Rk.ch M7 fun x hx => .inl hx
    have gR := s26 _ _ (c2.get (by simp only [List.mem_cons, List.not_mem_nil, or_false]; grind) gR)
    have gK := s26 _ _ (c2.get (by simp only [List.mem_cons, List.not_mem_nil, or_false]; grind) gK)
    have gR7 := s7 _ _ gR
    have gK7 := s7 _ _ gK
    walk_at "rf"
    refine ⟨tyL gR7, ?_⟩
    walk_at "rf"
    refine r_appE gR7 (small16M (by rw [List.length_map, Rr.1, List.length_map, List.length_take]; omega)) fun H8 g8 f8 => ?_
    walk_at "rf"
    have q2M := not_live (live6 S1 S2_ gR_ gK_) n2
    have q7M := not_live (live6 S12 S2 gR gK) n7
    have M8 : Ch [a1, b1, a2, b2, pR, pK] H' H8 := Ch.eb f8 (by simp) M7
    have C8 : Ch [pR] H7 H8 := Ch.eb (o := [pR]) f8 (by simp) Ch.refl
    have g2_7 := s7 _ _ (s26 _ _ g2)
    have g2_8 := C8.get (by simp only [List.mem_cons, List.not_mem_nil, or_false] at q2M ⊢; grind) g2_7
    have g7_8 := C8.get (by simp only [List.mem_cons, List.not_mem_nil, or_false] at q7M ⊢; grind) g7
    have gK8 := C8.get (by simp only [List.mem_cons, List.not_mem_nil, or_false]; grind) gK7
    have sl_ := bO_len ok
    refine ⟨_, _, rfl, _, ld_ints g2_8 (by omega), ld_ints g7_8 (by omega), fun H9 s9 => ⟨true, rfl, ?_⟩⟩
    walk_at "rf"
    have gK9 := s9 _ _ gK8
    refine ⟨tyL gK9, ?_⟩
    walk_at "rf"
    refine r_appE gK9 (small16M (by rw [List.length_map, Rk.1, List.length_map, List.length_take]; omega)) fun H10 g10 f10 => ?_
    walk_at "rf"
    have M10 : Ch [a1, b1, a2, b2, pR, pK] H' H10 := Ch.eb f10 (by simp) (Ch.same s9 M8)
    have C10 : Ch [pR, pK] H7 H10 := Ch.eb f10 (by simp) (Ch.same s9 (C8.mono (by simp)))
    have g7_10 := C10.get (by simp only [List.mem_cons, List.not_mem_nil, or_false] at q7M ⊢; grind) g7
    have g2_10 := C10.get (by simp only [List.mem_cons, List.not_mem_nil, or_false] at q2M ⊢; grind) g2_7
    have rows2 : ∀ x ∈ (es.take i).map bO, x.length ≤ 2000 := fun x hx2 => by
      obtain ⟨y, hy, rfl⟩ := List.mem_map.mp hx2
      obtain ⟨j, hj⟩ := List.mem_iff_getElem?.mp hy
      rw [List.getElem?_take] at hj
      split at hj
      · exact bO_len (evG_b (ev y (List.mem_of_getElem? hj)) (hq j (by omega) y hj))
      · cases hj
    have fl := flat_small rows2
    rw [List.length_map, List.length_take] at fl
    refine r_catB (M10.get poM gpo) g7_10 (by omega) fun q11 H11 n11 g11 s11 => ?_
    walk_at "rf"
    have C11 : Ch [pR, pK] H7 H11 := Ch.same s11 C10
    have M11 : Ch [a1, b1, a2, b2, pR, pK] H' H11 := Ch.same s11 M10
    have T1 := (S12.same s7).ch C11 (by simp only [List.mem_cons, List.not_mem_nil, or_false]; grind) (by simp only [List.mem_cons, List.not_mem_nil, or_false]; grind)
    have T2 := (S2.same s7).ch C11 (by simp only [List.mem_cons, List.not_mem_nil, or_false]; grind) (by simp only [List.mem_cons, List.not_mem_nil, or_false]; grind)
    have T1' := (S12.same s7).ch C10 (by simp only [List.mem_cons, List.not_mem_nil, or_false]; grind) (by simp only [List.mem_cons, List.not_mem_nil, or_false]; grind)
    have T2' := (S2.same s7).ch C10 (by simp only [List.mem_cons, List.not_mem_nil, or_false]; grind) (by simp only [List.mem_cons, List.not_mem_nil, or_false]; grind)
    have gR10 := f10.get (a := pK) (x := pR) (by grind) (s9 _ _ g8)
    have liv10 := live6 T1' T2' gR10 g10
    have q11M := not_live liv10 n11
    have gR11 := s11 _ _ gR10
    have gK11 := s11 _ _ g10
    have mR : rs.map V.ref ++ [V.ref q7] = (rs ++ [q7]).map V.ref := by rw [List.map_append]; rfl
    have mK : ks'.map V.ref ++ [V.ref q2] = (ks' ++ [q2]).map V.ref := by rw [List.map_append]; rfl
    rw [mR] at gR11
    rw [mK] at gK11
    have Rr11 : RwAt [a1, b1, a2, b2, pR, pK] H11 (rs ++ [q7]) ((es.take (i + 1)).map bO) := by
      rw [rows_take hx]
      exact (Rr.ch C11 fun x hx => .inl (by revert hx; simp; grind)).snoc q7M (s11 _ _ g7_10)
    have Rk11 : RwAt [a1, b1, a2, b2, pR, pK] H11 (ks' ++ [q2]) ((es.take (i + 1)).map bO) := by
      rw [rows_take hx]
      exact (Rk.ch C11 fun x hx => .inl (by revert hx; simp; grind)).snoc q2M (s11 _ _ g2_10)
    have g11' : H11 q11 = some (.lst (((es.take (i + 1)).map bO).flatten.map V.int)) := by
      rw [g11, rows_take hx, List.flatten_append]
      simp
    rw [← cntS_take hx] at T1
    by_cases c : (i : Int) % 2 = 0
    · rw [if_pos (by rw [decide_eq_true c])]
      have ek : (i : Int) / 2 = ((i / 2 : Nat) : Int) := by omega
      walk_at "rf"
      obtain ⟨e2, hx2⟩ : ∃ e2, es[i / 2]? = some e2 := ⟨_, List.getElem?_eq_getElem (by omega)⟩
      obtain ⟨v2, hv2⟩ : ∃ v2, vs[i / 2]? = some v2 := ⟨_, List.getElem?_eq_getElem (by omega)⟩
      have tv2 : Tp H18 v2 e2.dat := by
        obtain ⟨d, h1, h2⟩ := tpAll_get tE hv2
        unfold evD at h1
        rw [List.getElem?_map, hx2] at h1
        cases h1
        exact h2
      have M011 := c0.trans M11
      have z2 : lackE e2 = false := hq1 (i / 2) (by omega) e2 hx2
      have eg2 := ev e2 (List.mem_of_getElem? hx2)
      have ok2 := evG_b eg2 z2
      rw [show (i + 1) / 2 = i / 2 by omega] at T2
      rw [ek]
      refine r_ixL (SqL.of (M011.get pEM gE)) (atI_nat hv2) ?_
      walk_at "rf"
      refine ⟨_, _, rfl, a2, b2, _, e2, rfl, T2, Tp.tk M011.tk _ _ tv2, evG_num eg2, (fun z => by rw [z2] at z; cases z), fun _ => ⟨ok2, fun q12 H12 n12 g12 U2 c12 => ?_⟩⟩
      walk_at "rf"
      have gR12 := c12.get (by simp only [List.mem_cons, List.not_mem_nil, or_false]; grind) gR11
      have sl2_ := bO_len ok2
      obtain ⟨r2, hr2⟩ : ∃ r2, (rs ++ [q7])[i / 2]? = some r2 := ⟨_, List.getElem?_eq_getElem (by rw [List.length_append, Rr.1, List.length_map, List.length_take]; show _ < _ + 1; omega)⟩
      have ho2 : ((es.take (i + 1)).map bO)[i / 2]? = some (bO e2) := by rw [List.getElem?_map, List.getElem?_take, if_pos (by omega), hx2]; rfl
      have M12 : Ch [a1, b1, a2, b2, pR, pK] H' H12 := M11.trans (c12.mono (by simp))
      have c12M : Ch [a1, b1, a2, b2, pR, pK] H11 H12 := c12.mono (by simp)
      have Rr12 := Rr11.ch c12M fun x hx => .inl hx
      have gr2 := (Rr12.2 _ _ _ hr2 ho2).2
      rw [ek]
      refine r_ixL (SqL.of gR12) (atI_nat (j := i / 2) (v := .ref r2) (by rw [List.getElem?_map, hr2]; rfl)) ?_
      walk_at "rf"
      refine ⟨_, _, rfl, _, ld_ints g12 (by omega), ld_ints gr2 (by omega), fun H13 s13 => ⟨true, rfl, ?_⟩⟩
      walk_at "rf"
      have g13 := s13 _ _ g12
      refine ⟨tyL g13, ?_⟩
      walk_at "rf"
      refine r_appE g13 (small16M (by rw [List.length_map]; omega)) fun H14 g14 f14 => ?_
      have C14 : Ch [a2, b2] H11 H14 := Ch.ebn f14 n12 (Ch.same s13 c12)
      have D14 : Ch [q12] H12 H14 := Ch.eb (o := [q12]) f14 (by simp) (Ch.same s13 Ch.refl)
      have q12M := not_live (live6 T1 T2 gR11 gK11) n12
      simp only [List.mem_cons, List.not_mem_nil, or_false, not_or] at q12M
      have q11M' := q11M
      simp only [List.mem_cons, List.not_mem_nil, or_false, not_or] at q11M'
      have M14 : Ch [a1, b1, a2, b2, pR, pK] H11 H14 := C14.mono (by simp)
      walk_at "rf"
      rw [← cntS_take hx2] at U2
      have U2' := U2.ch D14 (by simp only [List.mem_cons, List.not_mem_nil, or_false]; grind) (by simp only [List.mem_cons, List.not_mem_nil, or_false]; grind)
      rw [show i / 2 + 1 = (i + 1 + 1) / 2 by omega] at U2'
      exact ⟨hq1, M011.trans M14, q11, _, _, _, _, _, ⟨T1.ch C14 (by simp only [List.mem_cons, List.not_mem_nil, or_false]; grind) (by simp only [List.mem_cons, List.not_mem_nil, or_false]; grind), U2', q11M, C14.get (by simp only [List.mem_cons, List.not_mem_nil, or_false]; grind) g11', _, _, Rr11.ch M14 fun x hx => .inl hx, Rk11.ch M14 fun x hx => .inl hx, C14.get (by simp only [List.mem_cons, List.not_mem_nil, or_false]; grind) gR11, C14.get (by simp only [List.mem_cons, List.not_mem_nil, or_false]; grind) gK11⟩, rfl⟩
    · rw [if_neg (by rw [decide_eq_false c]; decide)]
      walk_at "rf"
      rw [show (i + 1) / 2 = (i + 1 + 1) / 2 by omega] at T2
      exact ⟨hq1, c0.trans M11, q11, _, _, _, _, _, ⟨T1, T2, q11M, g11', _, _, Rr11, Rk11, gR11, gK11⟩, rfl⟩
  · rintro σ H' ⟨hq, c0, po, y13, y14, y15, y16, y17, ⟨S1, S2, poM, gpo, rs, ks', Rr, Rk, gR, gK⟩, rfl⟩
    have en : (vs.length : Int).toNat = es.length := by omega
    rw [en] at hq Rr Rk gpo
    rw [List.take_length] at Rr Rk gpo
    have nolack : ∀ e ∈ es, lackE e = false := fun e he => by
      obtain ⟨j, hj⟩ := List.mem_iff_getElem?.mp he
      exact hq j (List.getElem?_eq_some_iff.mp hj).1 e hj
    have small : ∀ x ∈ es.map bO, x.length ≤ 2000 := fun x hx => by
      obtain ⟨y, hy, rfl⟩ := List.mem_map.mp hx
      exact bO_len (evG_b (ev y hy) (nolack y hy))
    have fl := flat_small small
    rw [List.length_map] at fl
    obtain ⟨bf4, tks⟩ := to_tks n4 t4 es gf4 er nolack
    walk_at "rf"
    refine ⟨_, _, rfl, _, ld_rws gK Rk (by rw [Rk.1, List.length_map]; omega) (fun x hx => by have := small x hx; omega), ld_rws gR Rr (by rw [Rr.1, List.length_map]; omega) (fun x hx => by have := small x hx; omega), fun H2 s2 => ⟨true, rfl, ?_⟩⟩
    walk_at "rf"
    obtain ⟨sE, R, _, _, wE⟩ := run_val n4 t4 _ sc0 bf4 tks ready0 (by show 0 + n4 ≤ 24; omega)
    obtain ⟨ok0, run0⟩ := run_tokens bf4 tks (by omega)
    have wN : sE.wt = "nothing" := by rw [wE]; rfl
    have gpo2 := s2 _ _ gpo
    rw [oct_tkE] at R
    refine ⟨_, rfl, po, _, _, sE, t4, rfl, .inl gpo2, R, wN, ok0, run0, fun v8 H8 tp8 s8 => ?_⟩
    walk_at "rf"
    have tk := c0.tk.trans (Same.tk (s2.trans s8))
    exact ⟨_, _, rfl, t4.dat, bf_ld bf4 (by omega) tp8, bf_ld bf4 (by omega) (Tp.tk tk _ _ tp4), fun H9 s9 => h _⟩
end

theorem facts {P : Program} {w : World} {K : PySem.W.Frag} {h : Heap} {mg : Str → Option Value} {f : Addr} (X : K.In h) (G : h.Ns mainGlobals mg) (hfa : mg ("law" : Str) = some (.ref f)) (c : SaysM fa ex fn K) :
    ∃ fd : FuncData, (∀ (s : Shared) (v : Value), BindsTo s fd ⟨[v], []⟩ [("script", v)]) ∧ ∀ base : Heap, K.In base → base.Ns mainGlobals mg → FnOk P w K mg base CX0 92 f fd ["script"] (sp_law K) := by
  obtain ⟨fd_Begun___init__, F_Begun___init__⟩ := c.def_ 0 (d := d_Begun___init__) rfl
  obtain ⟨fd_BencodeLoose___init__, F_BencodeLoose___init__⟩ := c.def_ 1 (d := d_BencodeLoose___init__) rfl
  obtain ⟨fd__law_cell, F__law_cell⟩ := c.def_ 2 (d := d__law_cell) rfl
  obtain ⟨fd__law_numbers, F__law_numbers⟩ := c.def_ 3 (d := d__law_numbers) rfl
  obtain ⟨fd__law_state, F__law_state⟩ := c.def_ 4 (d := d__law_state) rfl
  obtain ⟨fd__law_next, F__law_next⟩ := c.def_ 5 (d := d__law_next) rfl
  obtain ⟨fd__law_many, F__law_many⟩ := c.def_ 6 (d := d__law_many) rfl
  obtain ⟨fd__law_points, F__law_points⟩ := c.def_ 7 (d := d__law_points) rfl
  obtain ⟨fd__law_big, F__law_big⟩ := c.def_ 8 (d := d__law_big) rfl
  obtain ⟨fd__law_normal, F__law_normal⟩ := c.def_ 9 (d := d__law_normal) rfl
  obtain ⟨fd__law_number, F__law_number⟩ := c.def_ 10 (d := d__law_number) rfl
  obtain ⟨fd__law_octets, F__law_octets⟩ := c.def_ 11 (d := d__law_octets) rfl
  obtain ⟨fd__law_leaf, F__law_leaf⟩ := c.def_ 12 (d := d__law_leaf) rfl
  obtain ⟨fd__law_value, F__law_value⟩ := c.def_ 13 (d := d__law_value) rfl
  obtain ⟨fd__law_towered, F__law_towered⟩ := c.def_ 14 (d := d__law_towered) rfl
  obtain ⟨fd__law_same, F__law_same⟩ := c.def_ 15 (d := d__law_same) rfl
  obtain ⟨fd__law_mixed, F__law_mixed⟩ := c.def_ 16 (d := d__law_mixed) rfl
  obtain ⟨fd__law_events, F__law_events⟩ := c.def_ 17 (d := d__law_events) rfl
  obtain ⟨fd__law_lacks, F__law_lacks⟩ := c.def_ 18 (d := d__law_lacks) rfl
  obtain ⟨fd__law_kinds, F__law_kinds⟩ := c.def_ 19 (d := d__law_kinds) rfl
  obtain ⟨fd_AlikeError___init__, F_AlikeError___init__⟩ := c.def_ 20 (d := d_AlikeError___init__) rfl
  obtain ⟨fd_power, F_power⟩ := c.def_ 21 (d := d_power) rfl
  obtain ⟨fd_whole, F_whole⟩ := c.def_ 22 (d := d_whole) rfl
  obtain ⟨fd_digits_of, F_digits_of⟩ := c.def_ 23 (d := d_digits_of) rfl
  obtain ⟨fd_signed_digits, F_signed_digits⟩ := c.def_ 24 (d := d_signed_digits) rfl
  obtain ⟨fd_in_ascii, F_in_ascii⟩ := c.def_ 25 (d := d_in_ascii) rfl
  obtain ⟨fd_with_count, F_with_count⟩ := c.def_ 26 (d := d_with_count) rfl
  obtain ⟨fd_leaf_octets, F_leaf_octets⟩ := c.def_ 27 (d := d_leaf_octets) rfl
  obtain ⟨fd__encode_long, F__encode_long⟩ := c.def_ 28 (d := d__encode_long) rfl
  obtain ⟨fd_encode, F_encode⟩ := c.def_ 29 (d := d_encode) rfl
  obtain ⟨fd_key_octets, F_key_octets⟩ := c.def_ 30 (d := d_key_octets) rfl
  obtain ⟨fd_is_lacking, F_is_lacking⟩ := c.def_ 31 (d := d_is_lacking) rfl
  obtain ⟨fd_Begun__count, F_Begun__count⟩ := c.def_ 32 (d := d_Begun__count) rfl
  obtain ⟨fd_Begun_note, F_Begun_note⟩ := c.def_ 33 (d := d_Begun_note) rfl
  obtain ⟨fd_BencodeLoose_take, F_BencodeLoose_take⟩ := c.def_ 34 (d := d_BencodeLoose_take) rfl
  obtain ⟨fd__law_taken, F__law_taken⟩ := c.def_ 35 (d := d__law_taken) rfl
  obtain ⟨fd_Nest___init__, F_Nest___init__⟩ := c.def_ 36 (d := d_Nest___init__) rfl
  obtain ⟨fd_BencodeScanner___init__, F_BencodeScanner___init__⟩ := c.def_ 37 (d := d_BencodeScanner___init__) rfl
  obtain ⟨fd_is_digit, F_is_digit⟩ := c.def_ 38 (d := d_is_digit) rfl
  obtain ⟨fd_Counted__take_in_count, F_Counted__take_in_count⟩ := c.def_ 39 (d := d_Counted__take_in_count) rfl
  obtain ⟨fd_Counted_take, F_Counted_take⟩ := c.def_ 40 (d := d_Counted_take) rfl
  obtain ⟨fd_normal, F_normal⟩ := c.def_ 41 (d := d_normal) rfl
  obtain ⟨fd_Numeral_pair, F_Numeral_pair⟩ := c.def_ 42 (d := d_Numeral_pair) rfl
  obtain ⟨fd_Numeral_negate, F_Numeral_negate⟩ := c.def_ 43 (d := d_Numeral_negate) rfl
  obtain ⟨fd_BencodeNumber__take_minus, F_BencodeNumber__take_minus⟩ := c.def_ 44 (d := d_BencodeNumber__take_minus) rfl
  obtain ⟨fd_Numeral_add_digit, F_Numeral_add_digit⟩ := c.def_ 45 (d := d_Numeral_add_digit) rfl
  obtain ⟨fd_BencodeNumber__take_digit, F_BencodeNumber__take_digit⟩ := c.def_ 46 (d := d_BencodeNumber__take_digit) rfl
  obtain ⟨fd_BencodeNumber_take, F_BencodeNumber_take⟩ := c.def_ 47 (d := d_BencodeNumber_take) rfl
  obtain ⟨fd_Utf8_is_open, F_Utf8_is_open⟩ := c.def_ 48 (d := d_Utf8_is_open) rfl
  obtain ⟨fd_Utf8__begin, F_Utf8__begin⟩ := c.def_ 49 (d := d_Utf8__begin) rfl
  obtain ⟨fd_Utf8__go_on, F_Utf8__go_on⟩ := c.def_ 50 (d := d_Utf8__go_on) rfl
  obtain ⟨fd_Utf8_take, F_Utf8_take⟩ := c.def_ 51 (d := d_Utf8_take) rfl
  obtain ⟨fd_BencodeKey_take, F_BencodeKey_take⟩ := c.def_ 52 (d := d_BencodeKey_take) rfl
  obtain ⟨fd_Counted_leaf, F_Counted_leaf⟩ := c.def_ 53 (d := d_Counted_leaf) rfl
  obtain ⟨fd_BencodeNumber_leaf, F_BencodeNumber_leaf⟩ := c.def_ 54 (d := d_BencodeNumber_leaf) rfl
  obtain ⟨fd_BencodeKey_leaf, F_BencodeKey_leaf⟩ := c.def_ 55 (d := d_BencodeKey_leaf) rfl
  obtain ⟨fd_Nest_note_key, F_Nest_note_key⟩ := c.def_ 56 (d := d_Nest_note_key) rfl
  obtain ⟨fd_Nest_inner, F_Nest_inner⟩ := c.def_ 57 (d := d_Nest_inner) rfl
  obtain ⟨fd_BencodeScanner__end_value, F_BencodeScanner__end_value⟩ := c.def_ 58 (d := d_BencodeScanner__end_value) rfl
  obtain ⟨fd_BencodeScanner__end_token, F_BencodeScanner__end_token⟩ := c.def_ 59 (d := d_BencodeScanner__end_token) rfl
  obtain ⟨fd_Counted___init__, F_Counted___init__⟩ := c.def_ 60 (d := d_Counted___init__) rfl
  obtain ⟨fd_Numeral___init__, F_Numeral___init__⟩ := c.def_ 61 (d := d_Numeral___init__) rfl
  obtain ⟨fd_BencodeNumber___init__, F_BencodeNumber___init__⟩ := c.def_ 62 (d := d_BencodeNumber___init__) rfl
  obtain ⟨fd_Utf8___init__, F_Utf8___init__⟩ := c.def_ 63 (d := d_Utf8___init__) rfl
  obtain ⟨fd_BencodeKey___init__, F_BencodeKey___init__⟩ := c.def_ 64 (d := d_BencodeKey___init__) rfl
  obtain ⟨fd_BencodeScanner__begin_counted, F_BencodeScanner__begin_counted⟩ := c.def_ 65 (d := d_BencodeScanner__begin_counted) rfl
  obtain ⟨fd_Nest_grow, F_Nest_grow⟩ := c.def_ 66 (d := d_Nest_grow) rfl
  obtain ⟨fd_BencodeScanner__grow, F_BencodeScanner__grow⟩ := c.def_ 67 (d := d_BencodeScanner__grow) rfl
  obtain ⟨fd_Nest_shrink, F_Nest_shrink⟩ := c.def_ 68 (d := d_Nest_shrink) rfl
  obtain ⟨fd_BencodeScanner__close, F_BencodeScanner__close⟩ := c.def_ 69 (d := d_BencodeScanner__close) rfl
  obtain ⟨fd_BencodeScanner__take_mark, F_BencodeScanner__take_mark⟩ := c.def_ 70 (d := d_BencodeScanner__take_mark) rfl
  obtain ⟨fd_BencodeScanner__take, F_BencodeScanner__take⟩ := c.def_ 71 (d := d_BencodeScanner__take) rfl
  obtain ⟨fd_BencodeScanner_step, F_BencodeScanner_step⟩ := c.def_ 72 (d := d_BencodeScanner_step) rfl
  obtain ⟨fd_BencodeScanner_end, F_BencodeScanner_end⟩ := c.def_ 73 (d := d_BencodeScanner_end) rfl
  obtain ⟨fd_Builder___init__, F_Builder___init__⟩ := c.def_ 74 (d := d_Builder___init__) rfl
  obtain ⟨fd_Frame___init__, F_Frame___init__⟩ := c.def_ 75 (d := d_Frame___init__) rfl
  obtain ⟨fd_list_of, F_list_of⟩ := c.def_ 76 (d := d_list_of) rfl
  obtain ⟨fd_map_of, F_map_of⟩ := c.def_ 77 (d := d_map_of) rfl
  obtain ⟨fd_Frame_built, F_Frame_built⟩ := c.def_ 78 (d := d_Frame_built) rfl
  obtain ⟨fd_Frame_put, F_Frame_put⟩ := c.def_ 79 (d := d_Frame_put) rfl
  obtain ⟨fd_Builder__put, F_Builder__put⟩ := c.def_ 80 (d := d_Builder__put) rfl
  obtain ⟨fd_Builder_take, F_Builder_take⟩ := c.def_ 81 (d := d_Builder_take) rfl
  obtain ⟨fd__take_all, F__take_all⟩ := c.def_ 82 (d := d__take_all) rfl
  obtain ⟨fd_value_of_text, F_value_of_text⟩ := c.def_ 83 (d := d_value_of_text) rfl
  obtain ⟨fd_read_bencode, F_read_bencode⟩ := c.def_ 84 (d := d_read_bencode) rfl
  obtain ⟨fd__law_read, F__law_read⟩ := c.def_ 85 (d := d__law_read) rfl
  obtain ⟨fd__law_utf8, F__law_utf8⟩ := c.def_ 86 (d := d__law_utf8) rfl
  obtain ⟨fd__law_ascii, F__law_ascii⟩ := c.def_ 87 (d := d__law_ascii) rfl
  obtain ⟨fd__law_string, F__law_string⟩ := c.def_ 88 (d := d__law_string) rfl
  obtain ⟨fd__law_leaf_written, F__law_leaf_written⟩ := c.def_ 89 (d := d__law_leaf_written) rfl
  obtain ⟨fd__law_due, F__law_due⟩ := c.def_ 90 (d := d__law_due) rfl
  obtain ⟨fd_law, F_law⟩ := c.def_ 91 (d := d_law) rfl
  have m__law_cell := He.glo_ok X G (x := "_law_cell") (c.fact 0 rfl)
  have m__law_numbers := He.glo_ok X G (x := "_law_numbers") (c.fact 1 rfl)
  have m__law_state := He.glo_ok X G (x := "_law_state") (c.fact 2 rfl)
  have m__law_next := He.glo_ok X G (x := "_law_next") (c.fact 3 rfl)
  have m__law_many := He.glo_ok X G (x := "_law_many") (c.fact 4 rfl)
  have m__law_points := He.glo_ok X G (x := "_law_points") (c.fact 5 rfl)
  have m__law_big := He.glo_ok X G (x := "_law_big") (c.fact 6 rfl)
  have m__law_normal := He.glo_ok X G (x := "_law_normal") (c.fact 7 rfl)
  have m__law_number := He.glo_ok X G (x := "_law_number") (c.fact 8 rfl)
  have m__law_octets := He.glo_ok X G (x := "_law_octets") (c.fact 9 rfl)
  have m__law_leaf := He.glo_ok X G (x := "_law_leaf") (c.fact 10 rfl)
  have m__law_value := He.glo_ok X G (x := "_law_value") (c.fact 11 rfl)
  have m__law_towered := He.glo_ok X G (x := "_law_towered") (c.fact 12 rfl)
  have m__law_same := He.glo_ok X G (x := "_law_same") (c.fact 13 rfl)
  have m__law_mixed := He.glo_ok X G (x := "_law_mixed") (c.fact 14 rfl)
  have m__law_events := He.glo_ok X G (x := "_law_events") (c.fact 15 rfl)
  have m__law_lacks := He.glo_ok X G (x := "_law_lacks") (c.fact 16 rfl)
  have m__law_kinds := He.glo_ok X G (x := "_law_kinds") (c.fact 17 rfl)
  have m_power := He.glo_ok X G (x := "power") (c.fact 18 rfl)
  have m_whole := He.glo_ok X G (x := "whole") (c.fact 19 rfl)
  have m_digits_of := He.glo_ok X G (x := "digits_of") (c.fact 20 rfl)
  have m_signed_digits := He.glo_ok X G (x := "signed_digits") (c.fact 21 rfl)
  have m_in_ascii := He.glo_ok X G (x := "in_ascii") (c.fact 22 rfl)
  have m_with_count := He.glo_ok X G (x := "with_count") (c.fact 23 rfl)
  have m_leaf_octets := He.glo_ok X G (x := "leaf_octets") (c.fact 24 rfl)
  have m__encode_long := He.glo_ok X G (x := "_encode_long") (c.fact 25 rfl)
  have m_encode := He.glo_ok X G (x := "encode") (c.fact 26 rfl)
  have m_key_octets := He.glo_ok X G (x := "key_octets") (c.fact 27 rfl)
  have m_is_lacking := He.glo_ok X G (x := "is_lacking") (c.fact 28 rfl)
  have m__law_taken := He.glo_ok X G (x := "_law_taken") (c.fact 29 rfl)
  have m_is_digit := He.glo_ok X G (x := "is_digit") (c.fact 30 rfl)
  have m_normal := He.glo_ok X G (x := "normal") (c.fact 31 rfl)
  have m_list_of := He.glo_ok X G (x := "list_of") (c.fact 32 rfl)
  have m_map_of := He.glo_ok X G (x := "map_of") (c.fact 33 rfl)
  have m__take_all := He.glo_ok X G (x := "_take_all") (c.fact 34 rfl)
  have m_value_of_text := He.glo_ok X G (x := "value_of_text") (c.fact 35 rfl)
  have m_read_bencode := He.glo_ok X G (x := "read_bencode") (c.fact 36 rfl)
  have m__law_read := He.glo_ok X G (x := "_law_read") (c.fact 37 rfl)
  have m__law_utf8 := He.glo_ok X G (x := "_law_utf8") (c.fact 38 rfl)
  have m__law_ascii := He.glo_ok X G (x := "_law_ascii") (c.fact 39 rfl)
  have m__law_string := He.glo_ok X G (x := "_law_string") (c.fact 40 rfl)
  have m__law_leaf_written := He.glo_ok X G (x := "_law_leaf_written") (c.fact 41 rfl)
  have m__law_due := He.glo_ok X G (x := "_law_due") (c.fact 42 rfl)
  have m_law := He.glo_ok X G (x := "law") (c.fact 43 rfl)
  have xx : ex K = true := c.more
  have x0 := (both xx).1
  replace xx := (both xx).2
  have x1 := (both xx).1
  replace xx := (both xx).2
  have x2 := (both xx).1
  replace xx := (both xx).2
  have x3 := (both xx).1
  replace xx := (both xx).2
  have x4 := (both xx).1
  replace xx := (both xx).2
  have x5 := (both xx).1
  replace xx := (both xx).2
  have x6 := (both xx).1
  replace xx := (both xx).2
  have x7 := (both xx).1
  replace xx := (both xx).2
  have x8 := (both xx).1
  replace xx := (both xx).2
  have x9 := (both xx).1
  replace xx := (both xx).2
  have x10 := (both xx).1
  replace xx := (both xx).2
  have x11 := (both xx).1
  replace xx := (both xx).2
  have x12 := xx
  have nb : Nm K mg := ⟨He.free_ok X G (c.fact 44 rfl),
    He.free_ok X G (c.fact 45 rfl),
    He.free_ok X G (c.fact 46 rfl),
    He.free_ok X G (c.fact 47 rfl),
    He.free_ok X G (c.fact 48 rfl),
    He.free_ok X G (c.fact 49 rfl),
    He.free_ok X G (c.fact 50 rfl),
    He.free_ok X G (c.fact 51 rfl),
    He.free_ok X G (c.fact 52 rfl),
    He.free_ok X G (c.fact 53 rfl),
    He.free_ok X G (c.fact 54 rfl),
    He.free_ok X G (c.fact 55 rfl),
    He.free_ok X G (c.fact 56 rfl),
    conI X G (c.fact 57 rfl),
    conI X G (c.fact 58 rfl),
    conI X G (c.fact 59 rfl),
    conI X G (c.fact 60 rfl),
    conI X G (c.fact 61 rfl),
    conM X G x0,
    conM X G x1,
    conI X G (c.fact 62 rfl),
    conI X G (c.fact 63 rfl),
    conI X G (c.fact 64 rfl),
    conI X G (c.fact 65 rfl),
    conI X G (c.fact 66 rfl),
    conI X G (c.fact 67 rfl),
    conI X G (c.fact 68 rfl),
    conI X G (c.fact 69 rfl),
    He.glo_ok X G (c.fact 70 rfl),
    exkM x2,
    He.glo_ok X G (c.fact 71 rfl),
    exkM x3,
    He.glo_ok X G (c.fact 72 rfl),
    exkM x4,
    He.glo_ok X G (c.fact 73 rfl),
    exkM x5,
    isxM x6,
    of_decide_eq_true x7,
    of_decide_eq_true x8,
    of_decide_eq_true x9,
    of_decide_eq_true x10,
    He.glo_ok X G (c.fact 74 rfl),
    He.cls_ok (c.fact 75 rfl),
    He.glo_ok X G (c.fact 76 rfl),
    He.mkr_ok (c.fact 77 rfl),
    He.noat_ok (c.fact 78 rfl),
    He.noat_ok (c.fact 79 rfl),
    He.noat_ok (c.fact 80 rfl),
    He.noat_ok (c.fact 81 rfl),
    He.noat_ok (c.fact 82 rfl),
    He.meth_ok (c.fact 83 rfl),
    He.meth_ok (c.fact 84 rfl),
    He.meth_ok (c.fact 85 rfl),
    He.cls_ok (c.fact 86 rfl),
    He.glo_ok X G (c.fact 87 rfl),
    He.mkr_ok (c.fact 88 rfl),
    He.noat_ok (c.fact 89 rfl),
    He.noat_ok (c.fact 90 rfl),
    He.noat_ok (c.fact 91 rfl),
    He.noat_ok (c.fact 92 rfl),
    He.noat_ok (c.fact 93 rfl),
    prM x11,
    He.meth_ok (c.fact 94 rfl),
    He.meth_ok (c.fact 95 rfl),
    He.meth_ok (c.fact 96 rfl),
    He.cls_ok (c.fact 97 rfl),
    He.glo_ok X G (c.fact 98 rfl),
    He.mkr_ok (c.fact 99 rfl),
    He.noat_ok (c.fact 100 rfl),
    He.meth_ok (c.fact 101 rfl),
    He.meth_ok (c.fact 102 rfl),
    He.cls_ok (c.fact 103 rfl),
    He.glo_ok X G (c.fact 104 rfl),
    He.mkr_ok (c.fact 105 rfl),
    He.noat_ok (c.fact 106 rfl),
    He.meth_ok (c.fact 107 rfl),
    He.cls_ok (c.fact 108 rfl),
    He.glo_ok X G (c.fact 109 rfl),
    He.mkr_ok (c.fact 110 rfl),
    He.noat_ok (c.fact 111 rfl),
    He.noat_ok (c.fact 112 rfl),
    He.noat_ok (c.fact 113 rfl),
    He.noat_ok (c.fact 114 rfl),
    He.noat_ok (c.fact 115 rfl),
    He.meth_ok (c.fact 116 rfl),
    He.meth_ok (c.fact 117 rfl),
    He.meth_ok (c.fact 118 rfl),
    He.meth_ok (c.fact 119 rfl),
    He.meth_ok (c.fact 120 rfl),
    He.meth_ok (c.fact 121 rfl),
    He.cls_ok (c.fact 122 rfl),
    He.glo_ok X G (c.fact 123 rfl),
    He.mkr_ok (c.fact 124 rfl),
    He.noat_ok (c.fact 125 rfl),
    He.noat_ok (c.fact 126 rfl),
    He.noat_ok (c.fact 127 rfl),
    He.meth_ok (c.fact 128 rfl),
    He.meth_ok (c.fact 129 rfl),
    He.meth_ok (c.fact 130 rfl),
    He.meth_ok (c.fact 131 rfl),
    He.cls_ok (c.fact 132 rfl),
    He.glo_ok X G (c.fact 133 rfl),
    He.mkr_ok (c.fact 134 rfl),
    He.noat_ok (c.fact 135 rfl),
    He.noat_ok (c.fact 136 rfl),
    He.noat_ok (c.fact 137 rfl),
    He.meth_ok (c.fact 138 rfl),
    He.meth_ok (c.fact 139 rfl),
    He.cls_ok (c.fact 140 rfl),
    He.glo_ok X G (c.fact 141 rfl),
    He.mkr_ok (c.fact 142 rfl),
    He.noat_ok (c.fact 143 rfl),
    He.meth_ok (c.fact 144 rfl),
    He.meth_ok (c.fact 145 rfl),
    He.meth_ok (c.fact 146 rfl),
    He.meth_ok (c.fact 147 rfl),
    He.cls_ok (c.fact 148 rfl),
    He.glo_ok X G (c.fact 149 rfl),
    He.mkr_ok (c.fact 150 rfl),
    He.noat_ok (c.fact 151 rfl),
    He.noat_ok (c.fact 152 rfl),
    He.noat_ok (c.fact 153 rfl),
    He.noat_ok (c.fact 154 rfl),
    He.meth_ok (c.fact 155 rfl),
    He.meth_ok (c.fact 156 rfl),
    He.meth_ok (c.fact 157 rfl),
    He.meth_ok (c.fact 158 rfl),
    He.meth_ok (c.fact 159 rfl),
    He.meth_ok (c.fact 160 rfl),
    He.meth_ok (c.fact 161 rfl),
    He.meth_ok (c.fact 162 rfl),
    He.meth_ok (c.fact 163 rfl),
    He.cls_ok (c.fact 164 rfl),
    He.glo_ok X G (c.fact 165 rfl),
    He.mkr_ok (c.fact 166 rfl),
    He.noat_ok (c.fact 167 rfl),
    He.noat_ok (c.fact 168 rfl),
    He.noat_ok (c.fact 169 rfl),
    He.meth_ok (c.fact 170 rfl),
    He.meth_ok (c.fact 171 rfl),
    He.cls_ok (c.fact 172 rfl),
    He.glo_ok X G (c.fact 173 rfl),
    He.mkr_ok (c.fact 174 rfl),
    He.noat_ok (c.fact 175 rfl),
    He.noat_ok (c.fact 176 rfl),
    He.noat_ok (c.fact 177 rfl),
    He.meth_ok (c.fact 178 rfl),
    He.meth_ok (c.fact 179 rfl),
    digK_ok x12⟩
  have e := hfa.symm.trans m_law
  cases e
  have b := FunD.bindsA (ps := ["script"]) F_law fun _ _ _ _ _ _ us hl => match us, hl with | [_], _ => rfl
  refine ⟨fd_law, fun s v => b s [v] rfl, fun base _ _ => ?_⟩
  have k_Begun := ok_Begun___init__ (P := P) (w := w) (base := base) F_Begun___init__ nb
  have k_BencodeLoose := ok_BencodeLoose___init__ (P := P) (w := w) (base := base) F_BencodeLoose___init__ nb k_Begun
  have c__law_cell := ok__law_cell (P := P) (w := w) (base := base) F__law_cell m__law_cell nb
  have c__law_numbers := ok__law_numbers (P := P) (w := w) (base := base) F__law_numbers m__law_numbers nb
  have c__law_state := ok__law_state (P := P) (w := w) (base := base) F__law_state m__law_state nb c__law_cell c__law_numbers
  have c__law_next := ok__law_next (P := P) (w := w) (base := base) F__law_next m__law_next nb
  have c__law_many := ok__law_many (P := P) (w := w) (base := base) F__law_many m__law_many nb c__law_next
  have c__law_points := ok__law_points (P := P) (w := w) (base := base) F__law_points m__law_points nb c__law_next c__law_many
  have c__law_big := ok__law_big (P := P) (w := w) (base := base) F__law_big m__law_big nb c__law_cell c__law_next
  have c__law_normal := ok__law_normal (P := P) (w := w) (base := base) F__law_normal m__law_normal nb
  have c__law_number := ok__law_number (P := P) (w := w) (base := base) F__law_number m__law_number nb c__law_next c__law_big c__law_normal
  have c__law_octets := ok__law_octets (P := P) (w := w) (base := base) F__law_octets m__law_octets nb c__law_next c__law_many
  have c__law_leaf := ok__law_leaf (P := P) (w := w) (base := base) F__law_leaf m__law_leaf nb c__law_next c__law_number c__law_points c__law_octets
  have c__law_value := rec__law_value (P := P) (w := w) (base := base) F__law_value m__law_value nb c__law_next c__law_many c__law_points c__law_leaf 5
  have c__law_towered := ok__law_towered (P := P) (w := w) (base := base) F__law_towered m__law_towered nb c__law_next
  have c__law_same := rec__law_same (P := P) (w := w) (base := base) F__law_same m__law_same nb 90
  have c__law_mixed := ok__law_mixed (P := P) (w := w) (base := base) F__law_mixed m__law_mixed nb c__law_next
  have c__law_events := rec__law_events (P := P) (w := w) (base := base) F__law_events m__law_events nb c__law_mixed 30
  have c__law_lacks := ok__law_lacks (P := P) (w := w) (base := base) F__law_lacks m__law_lacks nb
  have c__law_kinds := ok__law_kinds (P := P) (w := w) (base := base) F__law_kinds m__law_kinds nb c__law_next
  have z_Doubled : Raz P w K mg base "Doubled" (C_Doubled K) "what" := razM F_AlikeError___init__ sc_AlikeError___init__ nb.x_Doubled nb.g_Doubled (fun _ _ _ _ _ _ _ us its hu hi => match us, its, hu, hi with | [_, _], [_], _, _ => ⟨_, rfl, rfl⟩) (fun _ _ _ _ _ _ => pss_one (ps_ost (pv 0) (pv 1)))
  have z_Unwritable : Raz P w K mg base "Unwritable" (C_Unwritable K) "what" := razM F_AlikeError___init__ sc_AlikeError___init__ nb.x_Unwritable nb.g_Unwritable (fun _ _ _ _ _ _ _ us its hu hi => match us, its, hu, hi with | [_, _], [_], _, _ => ⟨_, rfl, rfl⟩) (fun _ _ _ _ _ _ => pss_one (ps_ost (pv 0) (pv 1)))
  have z_Unreadable : Raz P w K mg base "Unreadable" (C_Unreadable K) "what" := razM F_AlikeError___init__ sc_AlikeError___init__ nb.x_Unreadable nb.g_Unreadable (fun _ _ _ _ _ _ _ us its hu hi => match us, its, hu, hi with | [_, _], [_], _, _ => ⟨_, rfl, rfl⟩) (fun _ _ _ _ _ _ => pss_one (ps_ost (pv 0) (pv 1)))
  have z_AlikeError : Raz P w K mg base "AlikeError" (C_AlikeError K) "what" := razM F_AlikeError___init__ sc_AlikeError___init__ nb.x_AlikeError nb.g_AlikeError (fun _ _ _ _ _ _ _ us its hu hi => match us, its, hu, hi with | [_, _], [_], _, _ => ⟨_, rfl, rfl⟩) (fun _ _ _ _ _ _ => pss_one (ps_ost (pv 0) (pv 1)))
  have c_power := ok_power (P := P) (w := w) (base := base) F_power m_power nb
  have c_whole := ok_whole (P := P) (w := w) (base := base) F_whole m_whole nb c_power
  have c_digits_of := ok_digits_of (P := P) (w := w) (base := base) F_digits_of m_digits_of nb
  have c_signed_digits := ok_signed_digits (P := P) (w := w) (base := base) F_signed_digits m_signed_digits nb c_digits_of
  have c_in_ascii := ok_in_ascii (P := P) (w := w) (base := base) F_in_ascii m_in_ascii nb
  have c_with_count := ok_with_count (P := P) (w := w) (base := base) F_with_count m_with_count nb c_digits_of c_in_ascii
  have c_leaf_octets := ok_leaf_octets (P := P) (w := w) (base := base) F_leaf_octets m_leaf_octets nb c_whole c_signed_digits c_in_ascii c_with_count
  have c__encode_long := ok__encode_long (P := P) (w := w) (base := base) F__encode_long m__encode_long nb
  have c_encode := ok_encode (P := P) (w := w) (base := base) F_encode m_encode nb c__encode_long
  have c_key_octets := ok_key_octets (P := P) (w := w) (base := base) F_key_octets m_key_octets nb c_with_count c_encode
  have c_is_lacking := ok_is_lacking (P := P) (w := w) (base := base) F_is_lacking m_is_lacking nb
  have m_Begun__count := ok_Begun__count (P := P) (w := w) (base := base) F_Begun__count nb c_is_lacking z_Unwritable
  have m_Begun_note := ok_Begun_note (P := P) (w := w) (base := base) F_Begun_note nb m_Begun__count
  have m_BencodeLoose_take := ok_BencodeLoose_take (P := P) (w := w) (base := base) F_BencodeLoose_take nb c_leaf_octets c_key_octets m_Begun_note
  have c__law_taken := ok__law_taken (P := P) (w := w) (base := base) F__law_taken m__law_taken nb z_AlikeError m_BencodeLoose_take
  have k_Nest := ok_Nest___init__ (P := P) (w := w) (base := base) F_Nest___init__ nb
  have k_BencodeScanner := ok_BencodeScanner___init__ (P := P) (w := w) (base := base) F_BencodeScanner___init__ nb k_Nest
  have c_is_digit := ok_is_digit (P := P) (w := w) (base := base) F_is_digit m_is_digit nb
  have m_Counted__take_in_count := ok_Counted__take_in_count (P := P) (w := w) (base := base) F_Counted__take_in_count nb c_is_digit
  have m_Counted_take := ok_Counted_take (P := P) (w := w) (base := base) F_Counted_take nb m_Counted__take_in_count
  have c_normal := ok_normal (P := P) (w := w) (base := base) F_normal m_normal nb
  have m_Numeral_pair := ok_Numeral_pair (P := P) (w := w) (base := base) F_Numeral_pair nb c_normal
  have m_Numeral_negate := ok_Numeral_negate (P := P) (w := w) (base := base) F_Numeral_negate nb
  have m_BencodeNumber__take_minus := ok_BencodeNumber__take_minus (P := P) (w := w) (base := base) F_BencodeNumber__take_minus nb m_Numeral_negate
  have m_Numeral_add_digit := ok_Numeral_add_digit (P := P) (w := w) (base := base) F_Numeral_add_digit nb
  have m_BencodeNumber__take_digit := ok_BencodeNumber__take_digit (P := P) (w := w) (base := base) F_BencodeNumber__take_digit nb m_Numeral_add_digit
  have m_BencodeNumber_take := ok_BencodeNumber_take (P := P) (w := w) (base := base) F_BencodeNumber_take nb c_is_digit m_Numeral_pair m_BencodeNumber__take_minus m_BencodeNumber__take_digit
  have p_Utf8_is_open := ok_Utf8_is_open (P := P) (w := w) (base := base) F_Utf8_is_open nb
  have m_Utf8__begin := ok_Utf8__begin (P := P) (w := w) (base := base) F_Utf8__begin nb
  have m_Utf8__go_on := ok_Utf8__go_on (P := P) (w := w) (base := base) F_Utf8__go_on nb
  have m_Utf8_take := ok_Utf8_take (P := P) (w := w) (base := base) F_Utf8_take nb m_Utf8__begin m_Utf8__go_on
  have m_BencodeKey_take := ok_BencodeKey_take (P := P) (w := w) (base := base) F_BencodeKey_take nb m_Counted_take p_Utf8_is_open m_Utf8_take
  have m_Counted_leaf := ok_Counted_leaf (P := P) (w := w) (base := base) F_Counted_leaf nb
  have m_BencodeNumber_leaf := ok_BencodeNumber_leaf (P := P) (w := w) (base := base) F_BencodeNumber_leaf nb m_Numeral_pair
  have m_BencodeKey_leaf := ok_BencodeKey_leaf (P := P) (w := w) (base := base) F_BencodeKey_leaf nb
  have m_Nest_note_key := ok_Nest_note_key (P := P) (w := w) (base := base) F_Nest_note_key nb
  have m_Nest_inner := ok_Nest_inner (P := P) (w := w) (base := base) F_Nest_inner nb
  have m_BencodeScanner__end_value := ok_BencodeScanner__end_value (P := P) (w := w) (base := base) F_BencodeScanner__end_value nb m_Nest_inner
  have m_BencodeScanner__end_token := ok_BencodeScanner__end_token (P := P) (w := w) (base := base) F_BencodeScanner__end_token nb m_Counted_leaf m_BencodeNumber_leaf m_BencodeKey_leaf m_Nest_note_key m_BencodeScanner__end_value
  have k_Counted := ok_Counted___init__ (P := P) (w := w) (base := base) F_Counted___init__ nb
  have k_Numeral := ok_Numeral___init__ (P := P) (w := w) (base := base) F_Numeral___init__ nb
  have k_BencodeNumber := ok_BencodeNumber___init__ (P := P) (w := w) (base := base) F_BencodeNumber___init__ nb k_Numeral
  have k_Utf8 := ok_Utf8___init__ (P := P) (w := w) (base := base) F_Utf8___init__ nb
  have k_BencodeKey := ok_BencodeKey___init__ (P := P) (w := w) (base := base) F_BencodeKey___init__ nb k_Counted k_Utf8
  have m_BencodeScanner__begin_counted := ok_BencodeScanner__begin_counted (P := P) (w := w) (base := base) F_BencodeScanner__begin_counted nb m_Counted_take m_BencodeKey_take
  have m_Nest_grow := ok_Nest_grow (P := P) (w := w) (base := base) F_Nest_grow nb
  have m_BencodeScanner__grow := ok_BencodeScanner__grow (P := P) (w := w) (base := base) F_BencodeScanner__grow nb m_Nest_grow
  have m_Nest_shrink := ok_Nest_shrink (P := P) (w := w) (base := base) F_Nest_shrink nb
  have m_BencodeScanner__close := ok_BencodeScanner__close (P := P) (w := w) (base := base) F_BencodeScanner__close nb m_Nest_inner m_Nest_shrink m_BencodeScanner__end_value
  have m_BencodeScanner__take_mark := ok_BencodeScanner__take_mark (P := P) (w := w) (base := base) F_BencodeScanner__take_mark nb k_Counted k_BencodeNumber k_BencodeKey m_BencodeScanner__begin_counted m_BencodeScanner__grow m_BencodeScanner__close
  have m_BencodeScanner__take := ok_BencodeScanner__take (P := P) (w := w) (base := base) F_BencodeScanner__take nb m_Counted_take m_BencodeNumber_take m_BencodeKey_take m_BencodeScanner__end_token m_BencodeScanner__take_mark
  have m_BencodeScanner_step := ok_BencodeScanner_step (P := P) (w := w) (base := base) F_BencodeScanner_step nb m_BencodeScanner__take
  have m_BencodeScanner_end := ok_BencodeScanner_end (P := P) (w := w) (base := base) F_BencodeScanner_end nb
  have k_Builder := ok_Builder___init__ (P := P) (w := w) (base := base) F_Builder___init__ nb
  have k_Frame := ok_Frame___init__ (P := P) (w := w) (base := base) F_Frame___init__ nb
  have c_list_of := ok_list_of (P := P) (w := w) (base := base) F_list_of m_list_of nb
  have c_map_of := ok_map_of (P := P) (w := w) (base := base) F_map_of m_map_of nb
  have m_Frame_built := ok_Frame_built (P := P) (w := w) (base := base) F_Frame_built nb c_list_of c_map_of
  have m_Frame_put := ok_Frame_put (P := P) (w := w) (base := base) F_Frame_put nb
  have m_Builder__put := ok_Builder__put (P := P) (w := w) (base := base) F_Builder__put nb m_Frame_put
  have m_Builder_take := ok_Builder_take (P := P) (w := w) (base := base) F_Builder_take nb k_Frame m_Frame_built m_Builder__put
  have c__take_all := ok__take_all (P := P) (w := w) (base := base) F__take_all m__take_all nb m_Builder_take
  have c_value_of_text := ok_value_of_text (P := P) (w := w) (base := base) F_value_of_text m_value_of_text nb m_BencodeScanner_step m_BencodeScanner_end k_Builder c__take_all
  have c_read_bencode := ok_read_bencode (P := P) (w := w) (base := base) F_read_bencode m_read_bencode nb k_BencodeScanner c_value_of_text
  have c__law_read := ok__law_read (P := P) (w := w) (base := base) F__law_read m__law_read nb c_read_bencode
  have c__law_utf8 := ok__law_utf8 (P := P) (w := w) (base := base) F__law_utf8 m__law_utf8 nb
  have c__law_ascii := ok__law_ascii (P := P) (w := w) (base := base) F__law_ascii m__law_ascii nb
  have c__law_string := ok__law_string (P := P) (w := w) (base := base) F__law_string m__law_string nb c__law_ascii
  have c__law_leaf_written := ok__law_leaf_written (P := P) (w := w) (base := base) F__law_leaf_written m__law_leaf_written nb c__law_ascii c__law_string
  have c__law_due := ok__law_due (P := P) (w := w) (base := base) F__law_due m__law_due nb c__law_utf8 c__law_string c__law_leaf_written
  exact ok_law F_law nb k_BencodeLoose c__law_cell c__law_state c__law_next c__law_value c__law_towered c__law_same c__law_events c__law_lacks c__law_kinds c__law_taken c__law_read c__law_due
end Fa
open PySem PySem.W PySem.Calls PyProof.Rows
theorem PySem.Challenge.cw_formsalike_k41_bencode_loose_holds : PySem.Challenge.rw_formsalike_k41_bencode_loose.Holds := by
  w_on; o_law
  refine HandSHeadRun.head_any (r := OpenLaw.row PySem.Challenge.rw_formsalike_k41_bencode_loose) (q := view (OpenLaw.row PySem.Challenge.rw_formsalike_k41_bencode_loose).prog [90]) (H := Fa.hk) (ob := Fa.ob) (M := 9000) (loose := Fa.loose) (d := HandSHeadRun.topDef (OpenLaw.row PySem.Challenge.rw_formsalike_k41_bencode_loose).prog 90) (kwd := []) Fa.ob_eq
    (by kernel_rfl) (fun s => by kernel_rfl) Fa.run (by kernel_rfl) (by kernel_rfl) (by kernel_rfl) (by rfl) (by first | assumption | decide +kernel) (by decide +kernel) ⟨rfl, rfl, rfl, rfl, rfl, by decide +kernel⟩ ?hw ?hc
  case hw => w_witness2
  case hc =>
    refine L2.walk_ofE (l := PySem.Challenge.rw_formsalike_k41_bencode_loose) (n := 63) (k := 92) (x := "script") (CX := L2.CX0) rfl (by decide) (by kernel_rfl) ⟨rfl, by decide, by decide⟩ ?F (fun _ _ _ _ z => z)
    intro w mg fa h Y G hmg0
    obtain ⟨K, KX, c⟩ := Y
    have hmg : mg ("law" : PySem.Str) = some (.ref fa) := by
      have e : (HandSHeadRun.topDef (OpenLaw.row PySem.Challenge.rw_formsalike_k41_bencode_loose).prog 90).name = ("law" : PySem.Str) := by kernel_rfl
      rw [← e]
      exact hmg0
    obtain ⟨fd, hb, hF⟩ := Fa.facts (P := (PySem.Challenge.rw_formsalike_k41_bencode_loose).prog) (w := w) KX G hmg c
    exact ⟨K, fd, Fa.sp_law K, KX, hb, fun H a ns hl _ hS => ⟨_, rfl, a, ns, rfl, hS, fun _ => rfl⟩, hF⟩
