import PyProof.Rows.All
import Wide.All
import OpenK.AllK
import Wide.FinOn
import HandS.ForMost
import HandS.ForDict
import HandS.NoneIn
import HandS.Wide
import HandS.IsInst
import HandS.Lambda
import HandS.EndTab
import KE.KNestM
import HandS.TupLe
import HandS.Codes
import HandS.CallLocal
import HandS.More
import HandS.HeadHook3
import HandS.StrMore
import HandS.Style
import HandS.SortRule
import HandS.Conv
import KE.GoesEnum
import KE.GoesZip
import PyProof.LongRange
import PyProof.StrBlock2
import PyProof.Rows.StrSplitJoin
import PySem.Challenge.RW_turnedline_k37_desk_great_lines
set_option Elab.async false
set_option linter.all false
set_option maxRecDepth 100000
set_option maxHeartbeats 4000000
namespace Tz
open PySem PySem.Spec PyProof.Rows L2 TL
/-! ### new objects -/
def NewL (xs : List V) (H : Hp) (Q : VK) : Prop := xs.length ≤ sizeLine ∧ ∀ p, H p = none → Q (.ref p) (upd H p (.lst xs))
def NewT (xs : List V) (H : Hp) (Q : VK) : Prop := xs.length ≤ sizeLine ∧ ∀ p, H p = none → Q (.ref p) (upd H p (.tup xs))
/-! ### own rules: products of any size, a text times a count -/
theorem op_mulG {X : Cx} : OpR X (binaryOp .Mult) (rI IntMulOk fun i j => .int (i * j)) := opI fun _ _ _ _ _ _ _ hc q => mul_int q hc
def rMulS : R2 := fun x y H Q => ∃ (z : Str) (n : Int), x = .str z ∧ y = .int n ∧ MulOk z n ∧ Q (.str (Txt.mul z n)) H
theorem op_mulS {X : Cx} : OpR X (binaryOp .Mult) rMulS := by
  intro pins s σ H x y v u Q I rx ry h
  obtain ⟨z, n, rfl, rfl, ok, q⟩ := h
  obtain ⟨t, rfl⟩ := rx
  obtain ⟨t', rfl⟩ := ry
  exact SB.mul ok fun t' k => ⟨.str (Txt.mul z n), H, I.tok _, ⟨_, rfl⟩, q⟩
/-- divmod of great numbers: a new tuple of the part and the rest -/
theorem call_divmodW {X : Cx} : CallR X (.builtin "divmod") (fun xs H Q => ∃ (i j : Int), xs = [.int i, .int j] ∧ CDivW i j ∧ NewT [.int (i / j), .int (i % j)] H Q) := by
  intro pins s σ H xs us Q I r ⟨i, j, ex, hc, _, q⟩
  subst ex
  obtain ⟨u, u', rfl, ⟨t, rfl⟩, ⟨t', rfl⟩⟩ := vals2 r
  have pos : 0 < j := hc.1
  have nn : 0 ≤ j := Int.le_of_lt pos
  have fresh : H s.heap.objs.size = none := I.hok.fresh (Nat.le_refl _)
  refine divmod_int (Int.ne_of_gt pos) ?_ (.inl (PyProof.noPylong_of_log2 hc.2))
  rw [Int.fdiv_eq_ediv_of_nonneg i nn, Int.fmod_eq_emod_of_nonneg i nn]
  refine ⟨.ref s.heap.objs.size, _, I.laid (fun b o e => Heap.get?_push_of_some _ e) (Nat.le_refl _) ?_, rfl, q _ fresh⟩
  refine ⟨Nat.le_of_lt (small1000 (Nat.le_of_ble_eq_true rfl)), [.int (i / j) s.toks, .int (i % j) (s.toks + 1)], .cons ⟨_, rfl⟩ (.cons ⟨_, rfl⟩ .nil), ?_⟩
  exact ⟨_, Heap.get?_push_size s.heap rfl, rfl, 0, rfl⟩
/-! ### sizes -/
def Sz (b : Nat) (i : Int) : Prop := i.natAbs < 2 ^ b
instance {b : Nat} {i : Int} : Decidable (Sz b i) := inferInstanceAs (Decidable (i.natAbs < 2 ^ b))
theorem Sz.mono {a b : Nat} {i : Int} (h : Sz a i) (l : a ≤ b) : Sz b i := Nat.lt_of_lt_of_le h (Nat.pow_le_pow_right (by decide) l)
theorem Sz.mul {a b : Nat} {i j : Int} (h : Sz a i) (k : Sz b j) : Sz (a + b) (i * j) := wide_lt h k
theorem Sz.add {a : Nat} {i j : Int} (h : Sz a i) (k : Sz a j) : Sz (a + 1) (i + j) := by
  unfold Sz at *
  rw [Nat.pow_succ]
  omega
theorem Sz.sub {a : Nat} {i j : Int} (h : Sz a i) (k : Sz a j) : Sz (a + 1) (i - j) := by
  unfold Sz at *
  rw [Nat.pow_succ]
  omega
theorem Sz.neg {a : Nat} {i : Int} (h : Sz a i) : Sz a (-i) := by
  unfold Sz at *
  omega
theorem Sz.le {a : Nat} {i j : Int} (h : Sz a j) (h0 : 0 ≤ i) (h1 : i ≤ j) : Sz a i := wide_le h0 h1 h
theorem Sz.of {b : Nat} {i c : Int} (h0 : -c < i) (h1 : i < c) (hc : c ≤ ((2 ^ b : Nat) : Int)) : Sz b i := by
  unfold Sz
  omega
theorem Sz.mod {a : Nat} {i j : Int} (h : Sz a j) (h0 : 0 < j) : Sz a (i % j) := h.le (Int.emod_nonneg _ (by omega)) (Int.le_of_lt (Int.emod_lt_of_pos _ h0))
theorem Sz.div {a : Nat} {i j : Int} (h : Sz a i) (h0 : 0 < j) : Sz a (i / j) := by
  unfold Sz at *
  refine Nat.lt_of_le_of_lt ?_ h
  have e := Int.emod_add_mul_ediv i j
  have r0 := Int.emod_nonneg i (b := j) (by omega)
  have r1 := Int.emod_lt_of_pos i h0
  by_cases hq : 0 ≤ i / j
  · have : i / j ≤ j * (i / j) := by
      have := Int.mul_le_mul_of_nonneg_right (show (1 : Int) ≤ j by omega) hq
      omega
    omega
  · have : j * (i / j) ≤ i / j := by
      have := Int.mul_le_mul_of_nonpos_right (show (1 : Int) ≤ j by omega) (show i / j ≤ 0 by omega)
      omega
    have h2 : -(i / j) ≤ -i := by
      by_cases hj : j = 1
      · subst hj
        omega
      · have : j * (i / j + 1) ≤ i / j + 1 := by
          have := Int.mul_le_mul_of_nonpos_right (show (1 : Int) ≤ j by omega) (show i / j + 1 ≤ 0 by omega)
          omega
        rw [Int.mul_add] at this
        omega
    omega
theorem mul_ok {a b : Nat} {i j : Int} (h : Sz a i) (k : Sz b j) (l : a + b ≤ 900000 := by decide) : IntMulOk i j :=
  (wide_mul (a := a + 1) (b := b + 1) (Sz.mono h (Nat.le_succ _)) (Sz.mono k (Nat.le_succ _)) (Nat.succ_pos _) (Nat.succ_pos _) (by omega)).ok
theorem mul_okL {i j : Int} (h : -(2 ^ 64) < i ∧ i < 2 ^ 64 := by decide) : IntMulOk i j := CMul.ok (.inl h)
theorem mul_okM {i j k : Int} (h : 0 < j := by decide) (l : j < 2 ^ 64 := by decide) : IntMulOk (i % j) k := mul_okL ⟨Int.lt_of_lt_of_le (by decide) (Int.emod_nonneg i (by omega)), Int.lt_trans (Int.emod_lt_of_pos i h) l⟩
theorem mul_okR {i j : Int} (h : -(2 ^ 64) < j ∧ j < 2 ^ 64 := by decide) : IntMulOk i j := CMul.ok (.inr h)
theorem div_ok {i j : Int} {b : Nat} (h : 0 < j) (k : Sz b j) (l : b < 9000 := by decide) : CDivW i j :=
  wide_div (b := b + 1) h (Sz.mono k (Nat.le_succ _)) (Nat.succ_pos _) l
/-! ### readings, one lemma a head -/
section
variable {K : PySem.W.Frag} {D : Ends} {σ : L2.St} {H : Hp} {Q : VK} {R : Bool → Hp → Prop} {t u : TS} {te ta tb tc : TE} {tt tu : TT}
theorem r_seq (h : t { D with nx := u D } σ H) : tSeq t u D σ H := h
theorem r_next (h : D.nx σ H) : tNext D σ H := h
theorem r_asg {g : TG} (h : te σ H fun x H1 => g x σ H1 D.nx) : tAsg te g D σ H := h
theorem r_gname {i : Nat} {v : V} {S : L2.St → Hp → Prop} {σ' : L2.St} (e : σ.set i (some v) = σ') (h : S σ' H) : gName i v σ H S := by
  subst e
  exact h
theorem r_aug {i : Nat} {ti : TIp} {x : V} (e : σ[i]? = some (some x)) (h : te σ H fun y H1 => ti x y H1 fun z H2 => D.nx (σ.set i (some z)) H2) : tAug i te ti D σ H := ⟨x, e, h⟩
theorem r_var {i : Nat} {v : V} (e : σ[i]? = some (some v)) (h : Q v H) : tVar i σ H Q := ⟨v, e, h⟩
theorem r_C {v : V} (h : Q v H) : tC v σ H Q := h
theorem r_op {r : R2} (h : ta σ H fun x H1 => tb σ H1 fun y H2 => r x y H2 Q) : tOp r ta tb σ H Q := h
theorem r_un {r : V → Hp → VK → Prop} (h : ta σ H fun x H1 => r x H1 Q) : tUn r ta σ H Q := h
theorem r_I0 {g : Int → Int → V} {i j : Int} (h : Q (g i j) H) : rI0 g (.int i) (.int j) H Q := ⟨i, j, rfl, rfl, h⟩
theorem r_I {C : Int → Int → Prop} {g : Int → Int → V} {i j : Int} (c : C i j) (h : Q (g i j) H) : rI C g (.int i) (.int j) H Q := ⟨i, j, rfl, rfl, c, h⟩
theorem r_U {g : Int → V} {i : Int} (h : Q (g i) H) : rU g (.int i) H Q := ⟨i, rfl, h⟩
theorem r_ret (h : te σ H D.rt) : tRet te D σ H := h
theorem r_drop (h : te σ H fun _ H1 => D.nx σ H1) : tDrop te D σ H := h
theorem r_if (h : tt σ H fun b H1 => if b = true then t D σ H1 else u D σ H1) : tIfS tt t u D σ H := h
theorem r_test (h : te σ H fun x H' => ∃ k, x = .bl k ∧ R k H') : tTest te σ H R := h
theorem r_B (h : te σ H fun x H' => ∃ k, x = .bl k ∧ R k H') : tB te σ H R := h
theorem r_bl {k : Bool} {S : Bool → Prop} (h : S k) : ∃ k', V.bl k = .bl k' ∧ S k' := ⟨k, rfl, h⟩
theorem r_not (h : tt σ H fun c H1 => R (!c) H1) : tNot tt σ H R := h
theorem r_and (h : tt σ H fun c H1 => if c = true then tu σ H1 R else R false H1) : tAnd tt tu σ H R := h
theorem r_or (h : tt σ H fun c H1 => if c = true then R true H1 else tu σ H1 R) : tOr tt tu σ H R := h
theorem r_andV (h : ta σ H fun x H1 => ∃ c, x = .bl c ∧ if c = true then tb σ H1 Q else Q (.bl false) H1) : tAndV ta tb σ H Q := h
theorem r_orV (h : ta σ H fun x H1 => ∃ c, x = .bl c ∧ if c = true then Q (.bl true) H1 else tb σ H1 Q) : tOrV ta tb σ H Q := h
theorem r_notV (h : ta σ H fun x H1 => ∃ c, x = .bl c ∧ Q (.bl (!c)) H1) : tNotV ta σ H Q := h
theorem r_cons {tr : TA} {S : List V → Hp → Prop} (h : te σ H fun x H1 => tr σ H1 fun xs H2 => S (x :: xs) H2) : tCons te tr σ H S := h
theorem r_nil {S : List V → Hp → Prop} (h : S [] H) : tNil σ H S := h
theorem r_call {sp : Sp} {dvs : List V} {E : XK} {ts : TA} (h : ts σ H fun vs H1 => sp (vs ++ dvs) H1 Q E) : tCall sp dvs E ts σ H Q := h
theorem r_CB {r : List V → Hp → VK → Prop} {ts : TA} (h : ts σ H fun vs H1 => r vs H1 Q) : tCB r ts σ H Q := h
theorem r_tup {ts : TA} (h : ts σ H fun xs H1 => NewT xs H1 Q) : tTup ts σ H Q := h
theorem r_lst {ts : TA} (h : ts σ H fun xs H1 => NewL xs H1 Q) : tLst ts σ H Q := h
theorem r_eq {x y : V} (s : scal x y = true) (h : Q (.bl (decide (x = y))) H) : rEq x y H Q := ⟨s, h⟩
theorem r_ne {x y : V} (s : scal x y = true) (h : Q (.bl (!decide (x = y))) H) : rNe x y H Q := ⟨s, h⟩
theorem r_eqI {i j : Int} (h : Q (.bl (decide (i = j))) H) : rEq (.int i) (.int j) H Q := by
  refine ⟨rfl, ?_⟩
  have e : decide (V.int i = V.int j) = decide (i = j) := by
    by_cases c : i = j
    · subst c
      simp
    · rw [decide_eq_false c, decide_eq_false fun z => c (V.int.inj z)]
  rw [e]
  exact h
theorem r_neI {i j : Int} (h : Q (.bl (!decide (i = j))) H) : rNe (.int i) (.int j) H Q := by
  refine ⟨rfl, ?_⟩
  have e : decide (V.int i = V.int j) = decide (i = j) := by
    by_cases c : i = j
    · subst c
      simp
    · rw [decide_eq_false c, decide_eq_false fun z => c (V.int.inj z)]
  rw [e]
  exact h
theorem r_ixT {p : Addr} {xs : List V} {i : Int} {v : V} (s : SqT K H p xs) (e : atI xs i = some v) (h : Q v H) : rIxT K (.ref p) (.int i) H Q := ⟨p, xs, i, v, rfl, rfl, s, e, h⟩
theorem r_ixL {p : Addr} {xs : List V} {i : Int} {v : V} (s : SqL K H p xs) (e : atI xs i = some v) (h : Q v H) : rIxL K (.ref p) (.int i) H Q := ⟨p, xs, i, v, rfl, rfl, s, e, h⟩
theorem r_gtup {p : Addr} {n : Nat} {tg : TGs} {xs : List V} {S : L2.St → Hp → Prop} (s : SqT K H p xs) (l : xs.length = n) (h : tg xs σ H S) : gTup K n tg (.ref p) σ H S := ⟨p, xs, rfl, s, l, h⟩
theorem r_gcons {tg : TG} {tgs : TGs} {v : V} {vs : List V} {S : L2.St → Hp → Prop} (h : tg v σ H fun σ' H' => tgs vs σ' H' S) : gCons tg tgs (v :: vs) σ H S := ⟨v, vs, rfl, h⟩
theorem r_gnil {S : L2.St → Hp → Prop} (h : S σ H) : gNil [] σ H S := ⟨rfl, h⟩
theorem r_ite {c : Prop} [Decidable c] {A B : Prop} (h1 : c → A) (h2 : ¬ c → B) : if decide c = true then A else B := by
  by_cases h : c
  · rw [if_pos (decide_eq_true h)]
    exact h1 h
  · rw [if_neg (by simp [h])]
    exact h2 h
theorem r_iteN {c : Prop} [Decidable c] {A B : Prop} (h1 : ¬ c → A) (h2 : c → B) : if (!decide c) = true then A else B := by
  by_cases h : c
  · rw [if_neg (by simp [h])]
    exact h2 h
  · rw [if_pos (by simp [h])]
    exact h1 h
theorem iteNT {A B : Prop} (h : B) : if (!true) = true then A else B := iteF h
theorem iteNF {A B : Prop} (h : A) : if (!false) = true then A else B := iteT h
theorem r_chain {r r' : R2} (h : ta σ H fun x H1 => tb σ H1 fun y H2 => r x y H2 fun z H3 => ∃ k, z = .bl k ∧ (if k = true then tc σ H3 fun w' H4 => r' y w' H4 Q else Q (.bl false) H3)) : tChain r r' ta tb tc σ H Q := h
theorem r_sl {r : V → Option Int → Option Int → Hp → VK → Prop} {tl th : TO} (h : te σ H fun x H1 => tl σ H1 fun l H2 => th σ H2 fun u H3 => r x l u H3 Q) : tSl r te tl th σ H Q := h
theorem r_nopart {S : Option Int → Hp → Prop} (h : S none H) : tNoPart σ H S := h
theorem r_part {S : Option Int → Hp → Prop} (h : te σ H fun x H1 => ∃ i, x = .int i ∧ S (some i) H1) : tPart te σ H S := h
theorem r_parti {S : Int → Prop} {i : Int} (h : S i) : ∃ j, V.int i = .int j ∧ S j := ⟨i, rfl, h⟩
theorem r_gsub {to ti : TE} {ts : TSet} {v : V} {S : L2.St → Hp → Prop} (h : to σ H fun o H1 => ti σ H1 fun i H2 => ts o i v H2 fun H3 => S σ H3) : gSub to ti ts v σ H S := h
theorem r_rng1 {ts : TA} {R : It → Hp → Prop} (h : ts σ H fun vs H1 => ∃ j : Int, vs = [.int j] ∧ -(2 ^ 62) ≤ j ∧ j < 2 ^ 62 ∧ R (Itr 0 j.toNat) H1) : iRng1 ts σ H R := h
theorem r_rng2 {ts : TA} {R : It → Hp → Prop} (h : ts σ H fun vs H1 => ∃ i j : Int, vs = [.int i, .int j] ∧ (-(2 ^ 62) ≤ i ∧ i < 2 ^ 62 ∧ -(2 ^ 62) ≤ j ∧ j < 2 ^ 62) ∧ R (Itr i (j - i).toNat) H1) : iRng2 ts σ H R := h
theorem r_iList {R : It → Hp → Prop} (h : te σ H fun x H1 => ∃ a, x = .ref a ∧ (∃ xs, SqL K H1 a xs) ∧ R (Itl K a) H1) : iList K te σ H R := h
theorem r_iTup {R : It → Hp → Prop} (h : te σ H fun x H1 => ∃ a, x = .ref a ∧ (∃ xs, SqT K H1 a xs) ∧ R (Itt K a) H1) : iTup K te σ H R := h
def LoopOk (J : It) (g : TG) (tb : TS) (D : Ends) (σ : L2.St) (H : Hp) : Prop := ∃ W : Nat → Nat → L2.St → Hp → Prop, (∃ m, W 0 m σ H) ∧ ∀ i m σ H, W i m σ H →
  (J.stop i H ∧ D.nx σ H) ∨ (J.go i H ∧ ∃ N : L2.St → Hp → Prop, (∀ σ' H', N σ' H' → ∃ m', m' < m ∧ W (i + 1) m' σ' H') ∧ ∀ x H', J.yld i H x H' → g x σ H' fun σ2 H2 => tb { D with nx := N, ct := N, bk := D.nx } σ2 H2)
theorem r_for {wi : TI} {g : TG} (h : wi σ H fun J H1 => LoopOk J g t D σ H1) : tFor wi g t D σ H := h
theorem loop_range {lo : Int} {n : Nat} {g : TG} (Pv : Nat → L2.St → Hp → Prop) (h0 : Pv 0 σ H)
    (hs : ∀ (i : Nat) σ H, i < n → Pv i σ H → g (.int (lo + i)) σ H fun σ2 H2 => t { D with nx := Pv (i + 1), ct := Pv (i + 1), bk := D.nx } σ2 H2) (hd : ∀ σ H, Pv n σ H → D.nx σ H) : LoopOk (Itr lo n) g t D σ H := for_range Pv h0 hs hd
theorem loop_list {a : Addr} {xs : List V} {g : TG} (Pv : Nat → L2.St → Hp → Prop) (h0 : Pv 0 σ H) (hl : ∀ i σ H, i ≤ xs.length → Pv i σ H → SqL K H a xs)
    (hs : ∀ i x σ H, xs[i]? = some x → Pv i σ H → g x σ H fun σ2 H2 => t { D with nx := Pv (i + 1), ct := Pv (i + 1), bk := D.nx } σ2 H2) (hd : ∀ σ H, Pv xs.length σ H → D.nx σ H) : LoopOk (Itl K a) g t D σ H := for_list Pv h0 hl hs hd
theorem r_lenL {p : Addr} {ys : List V} {S : List V → Prop} (s : SqL K H p ys) (h : S ys) : ∃ p' ys', [V.ref p] = [V.ref p'] ∧ (SqL K H p' ys' ∨ SqT K H p' ys') ∧ S ys' := ⟨p, ys, rfl, .inl s, h⟩
theorem r_lenT {p : Addr} {ys : List V} {S : List V → Prop} (s : SqT K H p ys) (h : S ys) : ∃ p' ys', [V.ref p] = [V.ref p'] ∧ (SqL K H p' ys' ∨ SqT K H p' ys') ∧ S ys' := ⟨p, ys, rfl, .inr s, h⟩
theorem r_ipI {f : Int → Int → Int} {i j : Int} (h : Q (.int (f i j)) H) : ipI f (.int i) (.int j) H Q := ⟨i, j, rfl, rfl, h⟩
theorem r_divmod {a b : Int} {S : Int → Int → Prop} (h : S a b) : ∃ i j, [V.int a, V.int b] = [V.int i, V.int j] ∧ S i j := ⟨a, b, rfl, h⟩
theorem r_notN {S : Prop} (h : S) : (V.non = V.non) ∧ S := ⟨rfl, h⟩
def WhileOk (W : Nat → L2.St → Hp → Prop) (m : Nat) (tb : TS) (D : Ends) (σ : L2.St) (H : Hp) : Prop := ∃ N : L2.St → Hp → Prop, (∀ σ' H', N σ' H' → ∃ m', m' < m ∧ W m' σ' H') ∧ tb { D with nx := N, ct := N, bk := D.nx } σ H
theorem while_ok {W : Nat → L2.St → Hp → Prop} {m : Nat} (h : t { D with nx := fun σ' H' => ∃ m', m' < m ∧ W m' σ' H', ct := fun σ' H' => ∃ m', m' < m ∧ W m' σ' H', bk := D.nx } σ H) : WhileOk W m t D σ H := ⟨_, fun _ _ z => z, h⟩
theorem r_while (W : Nat → L2.St → Hp → Prop) (m0 : Nat) (h0 : W m0 σ H) (hs : ∀ m σ H, W m σ H → tt σ H fun b H1 => if b = true then WhileOk W m t D σ H1 else D.nx σ H1) : tWhile tt t D σ H := ⟨W, ⟨m0, h0⟩, hs⟩
theorem r_eqS {x y : V} {d : PyData} (hx : Dp K H x d) (hy : Dp K H y d) (s : SeqAt.shaped d = true) (h : Q (.bl true) H) : rEqD K x y H Q := ⟨d, d, hx, hy, s, s, by rw [SeqAt.eqv_refl d (SeqAt.canLay_of_shaped s)]; exact h⟩
theorem r_neS {x y : V} {d : PyData} (hx : Dp K H x d) (hy : Dp K H y d) (s : SeqAt.shaped d = true) (h : Q (.bl false) H) : rNeD K x y H Q := ⟨d, d, hx, hy, s, s, by rw [SeqAt.eqv_refl d (SeqAt.canLay_of_shaped s)]; exact h⟩
theorem dp_L2 {p : Addr} {i j : Int} (h : H p = some (.lst [.int i, .int j])) : Dp K H (.ref p) (.list [.int i, .int j]) := .lst (SqL.of h) (.cons (.int i) (.cons (.int j) .nil))
theorem dp_T2 {p : Addr} {i j : Int} (h : H p = some (.tup [.int i, .int j])) : Dp K H (.ref p) (.tuple [.int i, .int j]) := .tup (.inl (.inl h)) (.cons (.int i) (.cons (.int j) .nil))
theorem dp_T3 {p : Addr} {i j k : Int} (h : SqT K H p [.int i, .int j, .int k]) : Dp K H (.ref p) (.tuple [.int i, .int j, .int k]) := .tup h (.cons (.int i) (.cons (.int j) (.cons (.int k) .nil)))
theorem r_par {i j : Nat} {ts : TA} (h : ts σ H fun vs H1 => ∃ v w, vs = [v, w] ∧ D.nx ((σ.set i (some v)).set j (some w)) H1) : tPar i j ts D σ H := h
theorem r_two {x y : V} {S : V → V → Prop} (h : S x y) : ∃ v w, [x, y] = [v, w] ∧ S v w := ⟨x, y, rfl, h⟩
theorem r_abs {a : Int} {S : Int → Prop} (h : S a) : ∃ i, [V.int a] = [V.int i] ∧ S i := ⟨a, rfl, h⟩
theorem r_itb {b : Bool} {A B : Prop} (h1 : b = true → A) (h2 : b = false → B) : if b = true then A else B := by
  cases b with
  | true => exact iteT (h1 rfl)
  | false => exact iteF (h2 rfl)
theorem r_m0 {r : V → List V → Hp → VK → Prop} {to : TE} (h : to σ H fun x H1 => (∃ a, x = .str a) ∧ r x [] H1 Q) : tM0 r to σ H Q := h
theorem r_m1 {r : V → List V → Hp → VK → Prop} {to : TE} (h : to σ H fun x H1 => (∃ a, x = .str a) ∧ te σ H1 fun y H2 => r x [y] H2 Q) : tM1 r to te σ H Q := h
theorem r_isStr {w : Str} {S : Prop} (h : S) : (∃ a, V.str w = .str a) ∧ S := ⟨⟨w, rfl⟩, h⟩
theorem r_s2 {x y : Str} {S : Str → Str → Prop} (h : S x y) : ∃ a b, V.str x = .str a ∧ [V.str y] = [.str b] ∧ S a b := ⟨x, y, rfl, rfl, h⟩
theorem r_s1 {x : Str} {S : Str → Prop} (h : S x) : ∃ a, V.str x = .str a ∧ ([] : List V) = [] ∧ True ∧ S a := ⟨x, rfl, rfl, trivial, h⟩
theorem r_str1 {x : Str} {S : Str → Prop} (h : S x) : ∃ y, V.str x = .str y ∧ S y := ⟨x, rfl, h⟩
theorem r_str2 {x y : Str} {S : Str → Str → Prop} (h : S x y) : ∃ a b, V.str x = .str a ∧ V.str y = .str b ∧ S a b := ⟨x, y, rfl, rfl, h⟩
theorem r_eqStr {x y : Str} (h : Q (.bl (decide (V.str x = V.str y))) H) : rEq (.str x) (.str y) H Q := ⟨rfl, h⟩
theorem r_neStr {x y : Str} (h : Q (.bl (!decide (V.str x = V.str y))) H) : rNe (.str x) (.str y) H Q := ⟨rfl, h⟩
theorem r_max2 {a b : Int} {S : Int → Int → Prop} (h : S a b) : ∃ i j, [V.int a, V.int b] = [V.int i, V.int j] ∧ S i j := ⟨a, b, rfl, h⟩
theorem r_one {v : V} {S : V → Prop} (h : S v) : ∃ w, [v] = [w] ∧ S w := ⟨v, rfl, h⟩
theorem r_bm {T : String} {r : V → List V → Hp → VK → Prop} {to : TE} {ts : TA} (h : to σ H fun x H1 => tyV K T x H1 ∧ ts σ H1 fun xs H2 => r x xs H2 Q) : tBM K T r to ts σ H Q := h
theorem ty_list {p : Addr} {xs : List V} (h : H p = some (.lst xs)) : tyV K "list" (.ref p) H := .inl ⟨rfl, _, SqL.of h⟩
theorem r_isi {x c : V} {tx u : Value} {b : Bool} (hc : ClsV c u) (ht : TyX K H x tx) (e : PySem.W.kitOne K tx u = some b) (h : Q (.bl b) H) : rIsi K [x, c] H Q := ⟨x, c, tx, u, b, rfl, hc, ht, e, h⟩
theorem r_isInt {i : Int} (h : Q (.bl true) H) : rIsi K [.int i, .ty "int"] H Q := r_isi (.ty "int") (.base (.int i)) (kit_ty (by decide +kernel)) h
theorem r_isBool {i : Int} (h : Q (.bl false) H) : rIsi K [.int i, .ty "bool"] H Q := r_isi (.ty "bool") (.base (.int i)) (kit_ty (by decide +kernel)) h
theorem r_sum {p : Addr} {ns : List Int} (s : SqL K H p (ns.map V.int)) (h : Q (.int ns.sum) H) : rSum K [.ref p] H Q := ⟨p, ns, rfl, s, h⟩
end
/-! ### comprehensions -/
def Acc (D : Addr) (S : Hp → Prop) (y : V) (H : Hp) : Prop := ∃ acc, H D = some (.lst acc) ∧ acc.length < sizeLine ∧ S (upd H D (.lst (acc ++ [y])))
def LcOk (J : It) (g : TG) (tt : TT) (te : TE) (vs : List Nat) (σ : L2.St) (D : Addr) (S : Hp → Prop) (H1 : Hp) : Prop := ∃ W : Nat → Nat → Hp → Prop, (∃ m, W 0 m (upd H1 D (.lst []))) ∧ ∀ i m H, W i m H →
  (J.stop i H ∧ S H) ∨ (J.go i H ∧ ∃ Nx : Hp → Prop, (∀ H', Nx H' → ∃ m', m' < m ∧ W (i + 1) m' H') ∧ ∀ x H', J.yld i H x H' → g x (wipe σ vs) H' fun σ2 H2 => wipe σ2 vs = wipe σ vs ∧ tt σ2 H2 fun b H3 =>
    if b = true then te σ2 H3 fun y H4 => ∃ acc, H4 D = some (.lst acc) ∧ acc.length < sizeLine ∧ Nx (upd H4 D (.lst (acc ++ [y]))) else Nx H3)
section
variable {K : PySem.W.Frag} {σ : L2.St} {H : Hp} {Q : VK} {te : TE} {tt : TT} {g : TG} {vs : List Nat} {D : Addr} {S : Hp → Prop}
theorem r_lc {wi : TI} (h : wi σ H fun J H1 => ∀ D, H1 D = none → LcOk J g tt te vs σ D (Q (.ref D)) H1) : tLc wi g tt te vs σ H Q := h
theorem r_yes {R : Bool → Hp → Prop} (h : R true H) : tYes σ H R := h
theorem lc_ok_range {lo : Int} {n : Nat} (Pv : Nat → Hp → Prop) (h0 : Pv 0 (upd H D (.lst [])))
    (hs : ∀ (i : Nat) H, i < n → Pv i H → g (.int (lo + i)) (wipe σ vs) H fun σ2 H2 => wipe σ2 vs = wipe σ vs ∧ tt σ2 H2 fun b H3 => if b = true then te σ2 H3 fun y H4 => Acc D (Pv (i + 1)) y H4 else Pv (i + 1) H3) (hd : ∀ H, Pv n H → S H) : LcOk (Itr lo n) g tt te vs σ D S H := lc_range Pv h0 hs hd
theorem lc_ok_list {a : Addr} {xs : List V} (Pv : Nat → Hp → Prop) (h0 : Pv 0 (upd H D (.lst []))) (hl : ∀ i H, i ≤ xs.length → Pv i H → SqL K H a xs)
    (hs : ∀ (i : Nat) x H, xs[i]? = some x → Pv i H → g x (wipe σ vs) H fun σ2 H2 => wipe σ2 vs = wipe σ vs ∧ tt σ2 H2 fun b H3 => if b = true then te σ2 H3 fun y H4 => Acc D (Pv (i + 1)) y H4 else Pv (i + 1) H3) (hd : ∀ H, Pv xs.length H → S H) : LcOk (Itl K a) g tt te vs σ D S H := lc_list Pv h0 hl hs hd
end
/-! ### heaps -/
theorem same_upd {H : Hp} {p : Addr} {o : HO} (h : H p = none) : Same H (upd H p o) := fun b x e => by
  rw [upd_ne (ne_of_none e h)]
  exact e
theorem Same.seqT {K : PySem.W.Frag} {H H' : Hp} {a : Addr} {xs : List V} (e : Same H H') (h : SqT K H a xs) : SqT K H' a xs := by
  rcases h with (h | ⟨o, h⟩) | h
  · exact .inl (.inl (e _ _ h))
  · exact .inl (.inr ⟨o, e _ _ h⟩)
  · exact .inr h
/-- at p stands something else, elsewhere all is as it was -/
def But (p : Addr) (H H' : Hp) : Prop := ∀ b o, b ≠ p → H b = some o → H' b = some o
theorem But.free {p : Addr} {H H' : Hp} {b : Addr} {o : HO} (h : But p H H') (hp : H' p = some o) (e : H' b = none) : H b = none := by
  cases q : H b with
  | none => rfl
  | some u =>
    by_cases hb : b = p
    · rw [hb, hp] at e
      cases e
    · rw [h b u hb q] at e
      cases e
theorem r_newL {xs : List V} {H : Hp} {Q : VK} (h : ∀ p H1, H p = none → Same H H1 → H1 p = some (.lst xs) → Q (.ref p) H1) : ∀ p, H p = none → Q (.ref p) (upd H p (.lst xs)) := fun p hp => h p _ hp (same_upd hp) upd_same
theorem r_newT {xs : List V} {H : Hp} {Q : VK} (h : ∀ p H1, H p = none → Same H H1 → H1 p = some (.tup xs) → Q (.ref p) H1) : ∀ p, H p = none → Q (.ref p) (upd H p (.tup xs)) := fun p hp => h p _ hp (same_upd hp) upd_same
theorem r_lit {xs : List V} {H : Hp} {Q : VK} (h : ∀ p H1, H p = none → Same H H1 → H1 p = some (.lst xs) → Q (.ref p) H1) (l : xs.length ≤ 1000 := by exact Nat.le_of_ble_eq_true rfl) : NewL xs H Q := ⟨Nat.le_of_lt (small1000 l), r_newL h⟩
theorem r_litT {xs : List V} {H : Hp} {Q : VK} (h : ∀ p H1, H p = none → Same H H1 → H1 p = some (.tup xs) → Q (.ref p) H1) (l : xs.length ≤ 1000 := by exact Nat.le_of_ble_eq_true rfl) : NewT xs H Q := ⟨Nat.le_of_lt (small1000 l), r_newT h⟩
theorem r_cat {a b : Addr} {xs zs : List V} {H : Hp} {Q : VK} (ha : H a = some (.lst xs)) (hb : H b = some (.lst zs)) (l : xs.length + zs.length ≤ 1000) (h : ∀ p H1, H p = none → Same H H1 → H1 p = some (.lst (xs ++ zs)) → Q (.ref p) H1) : rCat (.ref a) (.ref b) H Q :=
  ⟨a, b, xs, zs, rfl, rfl, ha, hb, Nat.le_of_lt (small1000 l), r_newL h⟩
theorem r_slL {K : PySem.W.Frag} {a : Addr} {xs : List V} {lo hi : Option Int} {H : Hp} {Q : VK} (s : SqL K H a xs) (h : ∀ p H1, H p = none → Same H H1 → H1 p = some (.lst (cutV xs lo hi)) → Q (.ref p) H1) : rSlL K (.ref a) lo hi H Q := ⟨a, xs, rfl, s, r_newL h⟩
theorem r_setL {p : Addr} {xs : List V} {k : Int} {j : Nat} {v : V} {H : Hp} {S : Hp → Prop} (hp : H p = some (.lst xs)) (hj : ixN xs.length k = some j) (h : ∀ H1, H1 p = some (.lst (xs.set j v)) → But p H H1 → S H1) : rSetL (.ref p) (.int k) v H S :=
  ⟨p, xs, k, j, rfl, rfl, hp, hj, h _ upd_same fun b o n e => by rw [upd_ne n]; exact e⟩
theorem r_app {p : Addr} {xs : List V} {v : V} {H : Hp} {Q : VK} (hp : H p = some (.lst xs)) (l : xs.length < 1000) (h : ∀ H1, H1 p = some (.lst (xs ++ [v])) → But p H H1 → Q .non H1) : rAppend (.ref p) [v] H Q :=
  ⟨p, xs, v, rfl, rfl, hp, small1000 (Nat.le_of_lt l), h _ upd_same fun b o n e => by rw [upd_ne n]; exact e⟩
theorem at_int {cs : List Int} {j : Nat} (h : j < cs.length) : atI (cs.map V.int) (j : Int) = some (.int cs[j]) := atI_nat (by rw [List.getElem?_map, List.getElem?_eq_getElem h]; rfl)
theorem ixN_nat {n j : Nat} (h : j < n) : ixN n (j : Int) = some j := by
  unfold ixN
  rw [if_pos (Int.natCast_nonneg j), if_pos (by omega)]
  rfl
theorem acc_mk {D : Addr} {S : Hp → Prop} {y : V} {H : Hp} {acc : List V} (h : H D = some (.lst acc)) (l : acc.length < 1000) (k : ∀ H1, H1 D = some (.lst (acc ++ [y])) → But D H H1 → S H1) : Acc D S y H :=
  ⟨acc, h, small1000 (Nat.le_of_lt l), k _ upd_same fun b o n e => by rw [upd_ne n]; exact e⟩
theorem new_upd {D : Addr} {H : Hp} {o : HO} {S : Hp → Prop} (n : H D = none) (k : ∀ H1, H1 D = some o → Same H H1 → S H1) : S (upd H D o) := k _ upd_same (same_upd n)
theorem get_of {xs : List Int} {j : Nat} {y : V} (h : (xs.map V.int)[j]? = some y) : ∃ z, y = .int z ∧ z ∈ xs := by
  rw [List.getElem?_map] at h
  cases hq : xs[j]? with
  | none =>
    rw [hq] at h
    cases h
  | some z =>
    rw [hq] at h
    exact ⟨z, (Option.some.inj h).symm, List.mem_of_getElem? hq⟩
theorem r_newS {ys : List Str} {H : Hp} {Q : VK} (h : ∀ p H1, H p = none → Same H H1 → H1 p = some (.lst (ys.map V.str)) → Q (.ref p) H1) : rNewStrs ys H Q := fun p hp => h p _ hp (same_upd hp) upd_same
theorem get_map {α : Type} {f : α → V} {xs : List α} {j : Nat} {y : V} (h : (xs.map f)[j]? = some y) : ∃ z, y = f z ∧ xs[j]? = some z := by
  rw [List.getElem?_map] at h
  cases hq : xs[j]? with
  | none =>
    rw [hq] at h
    cases h
  | some z =>
    rw [hq] at h
    exact ⟨z, (Option.some.inj h).symm, rfl⟩
theorem r_all {K : PySem.W.Frag} {p : Addr} {bs : List Bool} {H : Hp} {Q : VK} (h : SqL K H p (bs.map V.bl)) (q : Q (.bl (bs.all id)) H) : rAll K [.ref p] H Q := ⟨p, bs, rfl, h, q⟩
theorem lg_ok {b : Nat} {m : Int} (hm : 0 < m) (s : Sz b m) (hb : b < 9000 := by decide) : m.natAbs.log2 < 9000 := (div_ok (i := 0) hm s hb).2
/-- a line at p whose numbers have at most 1000 bits -/
structure Ln (K : PySem.W.Frag) (H : Hp) (p : Addr) (a b m : Int) : Prop where
  at_ : SqT K H p [.int a, .int b, .int m]
  pos : 0 < m
  sa : Sz 1000 a
  sb : Sz 1000 b
  sm : Sz 1000 m
theorem Ln.same {K : PySem.W.Frag} {H H' : Hp} {p : Addr} {a b m : Int} (L : Ln K H p a b m) (s : Same H H') : Ln K H' p a b m := ⟨Same.seqT s L.at_, L.pos, L.sa, L.sb, L.sm⟩
/-- a line at p whose numbers have at most 100 bits -/
structure Lq (K : PySem.W.Frag) (H : Hp) (p : Addr) (a b m : Int) : Prop where
  at_ : SqT K H p [.int a, .int b, .int m]
  pos : 0 < m
  sa : Sz 100 a
  sb : Sz 100 b
  sm : Sz 100 m
theorem Lq.ln {K : PySem.W.Frag} {H : Hp} {p : Addr} {a b m : Int} (L : Lq K H p a b m) : Ln K H p a b m := ⟨L.at_, L.pos, L.sa.mono (by decide), L.sb.mono (by decide), L.sm.mono (by decide)⟩
theorem Lq.same {K : PySem.W.Frag} {H H' : Hp} {p : Addr} {a b m : Int} (L : Lq K H p a b m) (s : Same H H') : Lq K H' p a b m := ⟨Same.seqT s L.at_, L.pos, L.sa, L.sb, L.sm⟩
theorem ln_mk {K : PySem.W.Frag} {H : Hp} {p : Addr} {a b m : Int} {x y z : Nat} (e : H p = some (.tup [.int a, .int b, .int m])) (h : 0 < m) (sa : Sz x a) (sb : Sz y b) (sm : Sz z m) (hx : x ≤ 1000 := by decide) (hy : y ≤ 1000 := by decide) (hz : z ≤ 1000 := by decide) : Ln K H p a b m := ⟨.inl (.inl e), h, sa.mono hx, sb.mono hy, sm.mono hz⟩
/-! ### the deck -/
/-- the deck at d, its cells at c -/
def Dk (H : Hp) (d c : Addr) : Prop := ∃ (n seed : Int) (cs : List Int), H d = some (.lst [.ref c, .int n, .int seed]) ∧ H c = some (.lst (cs.map V.int)) ∧ 0 < cs.length ∧ cs.length ≤ 64
/-- all but the deck is as it was -/
def Kp (d c : Addr) (H H' : Hp) : Prop := ∀ b o, H b = some o → b ≠ d → b ≠ c → H' b = some o
theorem Kp.refl {d c : Addr} (H : Hp) : Kp d c H H := fun _ _ e _ _ => e
theorem Kp.trans {d c : Addr} {H H1 H2 : Hp} (h : Kp d c H H1) (k : Kp d c H1 H2) : Kp d c H H2 := fun b o e n1 n2 => k b o (h b o e n1 n2) n1 n2
theorem Kp.of {d c : Addr} {H H1 : Hp} (h : Same H H1) : Kp d c H H1 := fun b o e _ _ => h b o e
theorem Dk.ne {H : Hp} {d c t : Addr} {xs : List V} (D : Dk H d c) (h : H t = some (.tup xs)) : t ≠ d ∧ t ≠ c := by
  obtain ⟨n, s, cs, h1, h2, _⟩ := D
  exact ⟨ne_of h h1 (by intro z; cases z), ne_of h h2 (by intro z; cases z)⟩
theorem Kp.tup {H H' : Hp} {d c t : Addr} {xs : List V} (k : Kp d c H H') (D : Dk H d c) (h : H t = some (.tup xs)) : H' t = some (.tup xs) := k t _ h (D.ne h).1 (D.ne h).2
theorem Dk.same {H H' : Hp} {d c : Addr} (D : Dk H d c) (h : Same H H') : Dk H' d c := by
  obtain ⟨n, s, cs, h1, h2, h3, h4⟩ := D
  exact ⟨n, s, cs, h _ _ h1, h _ _ h2, h3, h4⟩
theorem Dk.neNew {H : Hp} {d c p : Addr} (D : Dk H d c) (h : H p = none) : p ≠ d ∧ p ≠ c := by
  obtain ⟨n, s, cs, h1, h2, _⟩ := D
  exact ⟨(ne_of_none h1 h).symm, (ne_of_none h2 h).symm⟩
theorem Dk.cd {H : Hp} {d c : Addr} (D : Dk H d c) : c ≠ d := by
  obtain ⟨n, s, cs, h1, h2, h3, _⟩ := D
  rintro rfl
  have e := h1.symm.trans h2
  have e2 := HO.lst.inj (Option.some.inj e)
  match cs, h3, e2 with
  | x :: r, _, e2 => exact V.noConfusion (List.cons.inj e2).1
theorem cut_int (ns : List Int) (hi : Option Int) : ∃ ms : List Int, cutV (ns.map V.int) none hi = ms.map V.int ∧ ms.length ≤ ns.length := by
  refine ⟨(ns.drop (HT.sIx (ns.map V.int).length 0 none)).take (HT.sIx (ns.map V.int).length (ns.map V.int).length hi - HT.sIx (ns.map V.int).length 0 none), ?_, ?_⟩
  · unfold cutV
    rw [List.map_take, List.map_drop]
  · rw [List.length_take, List.length_drop]
    omega
theorem dp_all_bl {K : PySem.W.Frag} {H : Hp} : ∀ bs : List Bool, DpAll K H (bs.map V.bl) (bs.map PyData.bool)
  | [] => .nil
  | b :: bs => .cons (.bl b) (dp_all_bl bs)
theorem dp_bls {K : PySem.W.Frag} {H : Hp} {p : Addr} {bs : List Bool} (h : H p = some (.lst (bs.map V.bl))) : Dp K H (.ref p) (.list (bs.map PyData.bool)) := .lst (SqL.of h) (dp_all_bl bs)
/-- [k == c for k in range(n)] -/
def kEq (c : Int) (n : Nat) : List Bool := (List.range n).map fun (k : Nat) => decide ((k : Int) = c)
theorem kEq_succ (c : Int) (n : Nat) : kEq c (n + 1) = kEq c n ++ [decide ((n : Int) = c)] := by
  unfold kEq
  rw [List.range_succ, List.map_append]
  rfl
theorem kEq_len (c : Int) (n : Nat) : (kEq c n).length = n := by
  unfold kEq
  rw [List.length_map, List.length_range]
/-! ### list(..), tuple(..) -/
def NewQ (ys : List V) (H : Hp) (Q : VK) : Prop := ∀ p, H p = none → Q (.ref p) (upd H p (.lst ys))
def NewTQ (ys : List V) (H : Hp) (Q : VK) : Prop := ∀ p, H p = none → Q (.ref p) (upd H p (.tup ys))
theorem r_newQ {xs : List V} {H : Hp} {Q : VK} (h : ∀ p H1, H p = none → Same H H1 → H1 p = some (.lst xs) → Q (.ref p) H1) : NewQ xs H Q := r_newL h
theorem r_newTQ {xs : List V} {H : Hp} {Q : VK} (h : ∀ p H1, H p = none → Same H H1 → H1 p = some (.tup xs) → Q (.ref p) H1) : NewTQ xs H Q := r_newT h
def rListOf (K : PySem.W.Frag) : List V → Hp → VK → Prop := fun xs H Q => ∃ (p : Addr) (ys : List V), xs = [.ref p] ∧ (SqL K H p ys ∨ SqT K H p ys) ∧ NewQ ys H Q
theorem call_listN {X : Cx} : CallR X (.type "list") (rListOf X.K) := call_list_of
def rTupOf (K : PySem.W.Frag) : List V → Hp → VK → Prop := fun xs H Q => ∃ (p : Addr) (ys : List V), xs = [.ref p] ∧ ((SqL K H p ys ∧ NewTQ ys H Q) ∨ (SqT K H p ys ∧ Q (.ref p) H))
theorem call_tupN {X : Cx} : CallR X (.type "tuple") (rTupOf X.K) := call_tuple_of
theorem r_listOf {K : PySem.W.Frag} {H : Hp} {Q : VK} {p : Addr} {ys : List V} (s : SqL K H p ys) (h : ∀ q H1, H q = none → Same H H1 → H1 q = some (.lst ys) → Q (.ref q) H1) : rListOf K [.ref p] H Q := ⟨p, ys, rfl, .inl s, r_newQ h⟩
theorem r_tupOf {K : PySem.W.Frag} {H : Hp} {Q : VK} {p : Addr} {ys : List V} (s : SqL K H p ys) (h : ∀ q H1, H q = none → Same H H1 → H1 q = some (.tup ys) → Q (.ref q) H1) : rTupOf K [.ref p] H Q := ⟨p, ys, rfl, .inl ⟨s, r_newTQ h⟩⟩
theorem Same.free {H H' : Hp} {a : Addr} (s : Same H H') (h : H' a = none) : H a = none := by
  cases q : H a with
  | none => rfl
  | some u =>
    rw [s a u q] at h
    cases h
/-! ### sizes by themselves -/
theorem Sz.addM {a b : Nat} {i j : Int} (h : Sz a i) (k : Sz b j) : Sz (a + b + 1) (i + j) := (h.mono (Nat.le_add_right a b)).add (k.mono (Nat.le_add_left b a))
theorem Sz.subM {a b : Nat} {i j : Int} (h : Sz a i) (k : Sz b j) : Sz (a + b + 1) (i - j) := (h.mono (Nat.le_add_right a b)).sub (k.mono (Nat.le_add_left b a))
theorem Sz.lit {i : Int} (h : Sz 64 i := by decide) : Sz 64 i := h
theorem r_inL {K : PySem.W.Frag} {x : V} {p : Addr} {xs : List V} {H : Hp} {Q : VK} (h : SqL K H p xs) (f1 : flatV x = true) (f2 : xs.all flatV = true) (q : Q (.bl (inV x xs)) H) : rIn K false x (.ref p) H Q := ⟨p, xs, rfl, .inl h, f1, f2, q⟩
theorem r_inT {K : PySem.W.Frag} {x : V} {p : Addr} {xs : List V} {H : Hp} {Q : VK} (h : SqT K H p xs) (f1 : flatV x = true) (f2 : xs.all flatV = true) (q : Q (.bl (inV x xs)) H) : rIn K false x (.ref p) H Q := ⟨p, xs, rfl, .inr h, f1, f2, q⟩
theorem mul_okA {a b : Nat} {i j : Int} (h : Sz a i) (k : Sz b j) (l : a + b ≤ 900000) : IntMulOk i j := mul_ok h k l
/-! ### slots by their places -/
section
variable {D : Ends} {H : Hp} {Q : VK} {te : TE} {t : L2.St}
theorem r_v0 {v : V} (h : Q v H) : tVar 0 (some v :: t) H Q := ⟨v, rfl, h⟩
theorem r_gn0 {x0 : Option V} {v : V} {S : L2.St → Hp → Prop} (h : S (some v :: t) H) : gName 0 v (x0 :: t) H S := h
theorem r_au0 {v : V} {ti : TIp} (h : te (some v :: t) H fun y H1 => ti v y H1 fun z H2 => D.nx (some z :: t) H2) : tAug 0 te ti D (some v :: t) H := ⟨v, rfl, h⟩
theorem r_v1 {x0 : Option V} {v : V} (h : Q v H) : tVar 1 (x0 :: some v :: t) H Q := ⟨v, rfl, h⟩
theorem r_gn1 {x0 x1 : Option V} {v : V} {S : L2.St → Hp → Prop} (h : S (x0 :: some v :: t) H) : gName 1 v (x0 :: x1 :: t) H S := h
theorem r_au1 {x0 : Option V} {v : V} {ti : TIp} (h : te (x0 :: some v :: t) H fun y H1 => ti v y H1 fun z H2 => D.nx (x0 :: some z :: t) H2) : tAug 1 te ti D (x0 :: some v :: t) H := ⟨v, rfl, h⟩
theorem r_v2 {x0 x1 : Option V} {v : V} (h : Q v H) : tVar 2 (x0 :: x1 :: some v :: t) H Q := ⟨v, rfl, h⟩
theorem r_gn2 {x0 x1 x2 : Option V} {v : V} {S : L2.St → Hp → Prop} (h : S (x0 :: x1 :: some v :: t) H) : gName 2 v (x0 :: x1 :: x2 :: t) H S := h
theorem r_au2 {x0 x1 : Option V} {v : V} {ti : TIp} (h : te (x0 :: x1 :: some v :: t) H fun y H1 => ti v y H1 fun z H2 => D.nx (x0 :: x1 :: some z :: t) H2) : tAug 2 te ti D (x0 :: x1 :: some v :: t) H := ⟨v, rfl, h⟩
theorem r_v3 {x0 x1 x2 : Option V} {v : V} (h : Q v H) : tVar 3 (x0 :: x1 :: x2 :: some v :: t) H Q := ⟨v, rfl, h⟩
theorem r_gn3 {x0 x1 x2 x3 : Option V} {v : V} {S : L2.St → Hp → Prop} (h : S (x0 :: x1 :: x2 :: some v :: t) H) : gName 3 v (x0 :: x1 :: x2 :: x3 :: t) H S := h
theorem r_au3 {x0 x1 x2 : Option V} {v : V} {ti : TIp} (h : te (x0 :: x1 :: x2 :: some v :: t) H fun y H1 => ti v y H1 fun z H2 => D.nx (x0 :: x1 :: x2 :: some z :: t) H2) : tAug 3 te ti D (x0 :: x1 :: x2 :: some v :: t) H := ⟨v, rfl, h⟩
theorem r_v4 {x0 x1 x2 x3 : Option V} {v : V} (h : Q v H) : tVar 4 (x0 :: x1 :: x2 :: x3 :: some v :: t) H Q := ⟨v, rfl, h⟩
theorem r_gn4 {x0 x1 x2 x3 x4 : Option V} {v : V} {S : L2.St → Hp → Prop} (h : S (x0 :: x1 :: x2 :: x3 :: some v :: t) H) : gName 4 v (x0 :: x1 :: x2 :: x3 :: x4 :: t) H S := h
theorem r_au4 {x0 x1 x2 x3 : Option V} {v : V} {ti : TIp} (h : te (x0 :: x1 :: x2 :: x3 :: some v :: t) H fun y H1 => ti v y H1 fun z H2 => D.nx (x0 :: x1 :: x2 :: x3 :: some z :: t) H2) : tAug 4 te ti D (x0 :: x1 :: x2 :: x3 :: some v :: t) H := ⟨v, rfl, h⟩
theorem r_v5 {x0 x1 x2 x3 x4 : Option V} {v : V} (h : Q v H) : tVar 5 (x0 :: x1 :: x2 :: x3 :: x4 :: some v :: t) H Q := ⟨v, rfl, h⟩
theorem r_gn5 {x0 x1 x2 x3 x4 x5 : Option V} {v : V} {S : L2.St → Hp → Prop} (h : S (x0 :: x1 :: x2 :: x3 :: x4 :: some v :: t) H) : gName 5 v (x0 :: x1 :: x2 :: x3 :: x4 :: x5 :: t) H S := h
theorem r_au5 {x0 x1 x2 x3 x4 : Option V} {v : V} {ti : TIp} (h : te (x0 :: x1 :: x2 :: x3 :: x4 :: some v :: t) H fun y H1 => ti v y H1 fun z H2 => D.nx (x0 :: x1 :: x2 :: x3 :: x4 :: some z :: t) H2) : tAug 5 te ti D (x0 :: x1 :: x2 :: x3 :: x4 :: some v :: t) H := ⟨v, rfl, h⟩
theorem r_v6 {x0 x1 x2 x3 x4 x5 : Option V} {v : V} (h : Q v H) : tVar 6 (x0 :: x1 :: x2 :: x3 :: x4 :: x5 :: some v :: t) H Q := ⟨v, rfl, h⟩
theorem r_gn6 {x0 x1 x2 x3 x4 x5 x6 : Option V} {v : V} {S : L2.St → Hp → Prop} (h : S (x0 :: x1 :: x2 :: x3 :: x4 :: x5 :: some v :: t) H) : gName 6 v (x0 :: x1 :: x2 :: x3 :: x4 :: x5 :: x6 :: t) H S := h
theorem r_au6 {x0 x1 x2 x3 x4 x5 : Option V} {v : V} {ti : TIp} (h : te (x0 :: x1 :: x2 :: x3 :: x4 :: x5 :: some v :: t) H fun y H1 => ti v y H1 fun z H2 => D.nx (x0 :: x1 :: x2 :: x3 :: x4 :: x5 :: some z :: t) H2) : tAug 6 te ti D (x0 :: x1 :: x2 :: x3 :: x4 :: x5 :: some v :: t) H := ⟨v, rfl, h⟩
theorem r_v7 {x0 x1 x2 x3 x4 x5 x6 : Option V} {v : V} (h : Q v H) : tVar 7 (x0 :: x1 :: x2 :: x3 :: x4 :: x5 :: x6 :: some v :: t) H Q := ⟨v, rfl, h⟩
theorem r_gn7 {x0 x1 x2 x3 x4 x5 x6 x7 : Option V} {v : V} {S : L2.St → Hp → Prop} (h : S (x0 :: x1 :: x2 :: x3 :: x4 :: x5 :: x6 :: some v :: t) H) : gName 7 v (x0 :: x1 :: x2 :: x3 :: x4 :: x5 :: x6 :: x7 :: t) H S := h
theorem r_au7 {x0 x1 x2 x3 x4 x5 x6 : Option V} {v : V} {ti : TIp} (h : te (x0 :: x1 :: x2 :: x3 :: x4 :: x5 :: x6 :: some v :: t) H fun y H1 => ti v y H1 fun z H2 => D.nx (x0 :: x1 :: x2 :: x3 :: x4 :: x5 :: x6 :: some z :: t) H2) : tAug 7 te ti D (x0 :: x1 :: x2 :: x3 :: x4 :: x5 :: x6 :: some v :: t) H := ⟨v, rfl, h⟩
theorem r_v8 {x0 x1 x2 x3 x4 x5 x6 x7 : Option V} {v : V} (h : Q v H) : tVar 8 (x0 :: x1 :: x2 :: x3 :: x4 :: x5 :: x6 :: x7 :: some v :: t) H Q := ⟨v, rfl, h⟩
theorem r_gn8 {x0 x1 x2 x3 x4 x5 x6 x7 x8 : Option V} {v : V} {S : L2.St → Hp → Prop} (h : S (x0 :: x1 :: x2 :: x3 :: x4 :: x5 :: x6 :: x7 :: some v :: t) H) : gName 8 v (x0 :: x1 :: x2 :: x3 :: x4 :: x5 :: x6 :: x7 :: x8 :: t) H S := h
theorem r_au8 {x0 x1 x2 x3 x4 x5 x6 x7 : Option V} {v : V} {ti : TIp} (h : te (x0 :: x1 :: x2 :: x3 :: x4 :: x5 :: x6 :: x7 :: some v :: t) H fun y H1 => ti v y H1 fun z H2 => D.nx (x0 :: x1 :: x2 :: x3 :: x4 :: x5 :: x6 :: x7 :: some z :: t) H2) : tAug 8 te ti D (x0 :: x1 :: x2 :: x3 :: x4 :: x5 :: x6 :: x7 :: some v :: t) H := ⟨v, rfl, h⟩
theorem r_v9 {x0 x1 x2 x3 x4 x5 x6 x7 x8 : Option V} {v : V} (h : Q v H) : tVar 9 (x0 :: x1 :: x2 :: x3 :: x4 :: x5 :: x6 :: x7 :: x8 :: some v :: t) H Q := ⟨v, rfl, h⟩
theorem r_gn9 {x0 x1 x2 x3 x4 x5 x6 x7 x8 x9 : Option V} {v : V} {S : L2.St → Hp → Prop} (h : S (x0 :: x1 :: x2 :: x3 :: x4 :: x5 :: x6 :: x7 :: x8 :: some v :: t) H) : gName 9 v (x0 :: x1 :: x2 :: x3 :: x4 :: x5 :: x6 :: x7 :: x8 :: x9 :: t) H S := h
theorem r_au9 {x0 x1 x2 x3 x4 x5 x6 x7 x8 : Option V} {v : V} {ti : TIp} (h : te (x0 :: x1 :: x2 :: x3 :: x4 :: x5 :: x6 :: x7 :: x8 :: some v :: t) H fun y H1 => ti v y H1 fun z H2 => D.nx (x0 :: x1 :: x2 :: x3 :: x4 :: x5 :: x6 :: x7 :: x8 :: some z :: t) H2) : tAug 9 te ti D (x0 :: x1 :: x2 :: x3 :: x4 :: x5 :: x6 :: x7 :: x8 :: some v :: t) H := ⟨v, rfl, h⟩
theorem r_v10 {x0 x1 x2 x3 x4 x5 x6 x7 x8 x9 : Option V} {v : V} (h : Q v H) : tVar 10 (x0 :: x1 :: x2 :: x3 :: x4 :: x5 :: x6 :: x7 :: x8 :: x9 :: some v :: t) H Q := ⟨v, rfl, h⟩
theorem r_gn10 {x0 x1 x2 x3 x4 x5 x6 x7 x8 x9 x10 : Option V} {v : V} {S : L2.St → Hp → Prop} (h : S (x0 :: x1 :: x2 :: x3 :: x4 :: x5 :: x6 :: x7 :: x8 :: x9 :: some v :: t) H) : gName 10 v (x0 :: x1 :: x2 :: x3 :: x4 :: x5 :: x6 :: x7 :: x8 :: x9 :: x10 :: t) H S := h
theorem r_au10 {x0 x1 x2 x3 x4 x5 x6 x7 x8 x9 : Option V} {v : V} {ti : TIp} (h : te (x0 :: x1 :: x2 :: x3 :: x4 :: x5 :: x6 :: x7 :: x8 :: x9 :: some v :: t) H fun y H1 => ti v y H1 fun z H2 => D.nx (x0 :: x1 :: x2 :: x3 :: x4 :: x5 :: x6 :: x7 :: x8 :: x9 :: some z :: t) H2) : tAug 10 te ti D (x0 :: x1 :: x2 :: x3 :: x4 :: x5 :: x6 :: x7 :: x8 :: x9 :: some v :: t) H := ⟨v, rfl, h⟩
theorem r_v11 {x0 x1 x2 x3 x4 x5 x6 x7 x8 x9 x10 : Option V} {v : V} (h : Q v H) : tVar 11 (x0 :: x1 :: x2 :: x3 :: x4 :: x5 :: x6 :: x7 :: x8 :: x9 :: x10 :: some v :: t) H Q := ⟨v, rfl, h⟩
theorem r_gn11 {x0 x1 x2 x3 x4 x5 x6 x7 x8 x9 x10 x11 : Option V} {v : V} {S : L2.St → Hp → Prop} (h : S (x0 :: x1 :: x2 :: x3 :: x4 :: x5 :: x6 :: x7 :: x8 :: x9 :: x10 :: some v :: t) H) : gName 11 v (x0 :: x1 :: x2 :: x3 :: x4 :: x5 :: x6 :: x7 :: x8 :: x9 :: x10 :: x11 :: t) H S := h
theorem r_au11 {x0 x1 x2 x3 x4 x5 x6 x7 x8 x9 x10 : Option V} {v : V} {ti : TIp} (h : te (x0 :: x1 :: x2 :: x3 :: x4 :: x5 :: x6 :: x7 :: x8 :: x9 :: x10 :: some v :: t) H fun y H1 => ti v y H1 fun z H2 => D.nx (x0 :: x1 :: x2 :: x3 :: x4 :: x5 :: x6 :: x7 :: x8 :: x9 :: x10 :: some z :: t) H2) : tAug 11 te ti D (x0 :: x1 :: x2 :: x3 :: x4 :: x5 :: x6 :: x7 :: x8 :: x9 :: x10 :: some v :: t) H := ⟨v, rfl, h⟩
theorem r_v12 {x0 x1 x2 x3 x4 x5 x6 x7 x8 x9 x10 x11 : Option V} {v : V} (h : Q v H) : tVar 12 (x0 :: x1 :: x2 :: x3 :: x4 :: x5 :: x6 :: x7 :: x8 :: x9 :: x10 :: x11 :: some v :: t) H Q := ⟨v, rfl, h⟩
theorem r_gn12 {x0 x1 x2 x3 x4 x5 x6 x7 x8 x9 x10 x11 x12 : Option V} {v : V} {S : L2.St → Hp → Prop} (h : S (x0 :: x1 :: x2 :: x3 :: x4 :: x5 :: x6 :: x7 :: x8 :: x9 :: x10 :: x11 :: some v :: t) H) : gName 12 v (x0 :: x1 :: x2 :: x3 :: x4 :: x5 :: x6 :: x7 :: x8 :: x9 :: x10 :: x11 :: x12 :: t) H S := h
theorem r_au12 {x0 x1 x2 x3 x4 x5 x6 x7 x8 x9 x10 x11 : Option V} {v : V} {ti : TIp} (h : te (x0 :: x1 :: x2 :: x3 :: x4 :: x5 :: x6 :: x7 :: x8 :: x9 :: x10 :: x11 :: some v :: t) H fun y H1 => ti v y H1 fun z H2 => D.nx (x0 :: x1 :: x2 :: x3 :: x4 :: x5 :: x6 :: x7 :: x8 :: x9 :: x10 :: x11 :: some z :: t) H2) : tAug 12 te ti D (x0 :: x1 :: x2 :: x3 :: x4 :: x5 :: x6 :: x7 :: x8 :: x9 :: x10 :: x11 :: some v :: t) H := ⟨v, rfl, h⟩
theorem r_v13 {x0 x1 x2 x3 x4 x5 x6 x7 x8 x9 x10 x11 x12 : Option V} {v : V} (h : Q v H) : tVar 13 (x0 :: x1 :: x2 :: x3 :: x4 :: x5 :: x6 :: x7 :: x8 :: x9 :: x10 :: x11 :: x12 :: some v :: t) H Q := ⟨v, rfl, h⟩
theorem r_gn13 {x0 x1 x2 x3 x4 x5 x6 x7 x8 x9 x10 x11 x12 x13 : Option V} {v : V} {S : L2.St → Hp → Prop} (h : S (x0 :: x1 :: x2 :: x3 :: x4 :: x5 :: x6 :: x7 :: x8 :: x9 :: x10 :: x11 :: x12 :: some v :: t) H) : gName 13 v (x0 :: x1 :: x2 :: x3 :: x4 :: x5 :: x6 :: x7 :: x8 :: x9 :: x10 :: x11 :: x12 :: x13 :: t) H S := h
theorem r_au13 {x0 x1 x2 x3 x4 x5 x6 x7 x8 x9 x10 x11 x12 : Option V} {v : V} {ti : TIp} (h : te (x0 :: x1 :: x2 :: x3 :: x4 :: x5 :: x6 :: x7 :: x8 :: x9 :: x10 :: x11 :: x12 :: some v :: t) H fun y H1 => ti v y H1 fun z H2 => D.nx (x0 :: x1 :: x2 :: x3 :: x4 :: x5 :: x6 :: x7 :: x8 :: x9 :: x10 :: x11 :: x12 :: some z :: t) H2) : tAug 13 te ti D (x0 :: x1 :: x2 :: x3 :: x4 :: x5 :: x6 :: x7 :: x8 :: x9 :: x10 :: x11 :: x12 :: some v :: t) H := ⟨v, rfl, h⟩
theorem r_v14 {x0 x1 x2 x3 x4 x5 x6 x7 x8 x9 x10 x11 x12 x13 : Option V} {v : V} (h : Q v H) : tVar 14 (x0 :: x1 :: x2 :: x3 :: x4 :: x5 :: x6 :: x7 :: x8 :: x9 :: x10 :: x11 :: x12 :: x13 :: some v :: t) H Q := ⟨v, rfl, h⟩
theorem r_gn14 {x0 x1 x2 x3 x4 x5 x6 x7 x8 x9 x10 x11 x12 x13 x14 : Option V} {v : V} {S : L2.St → Hp → Prop} (h : S (x0 :: x1 :: x2 :: x3 :: x4 :: x5 :: x6 :: x7 :: x8 :: x9 :: x10 :: x11 :: x12 :: x13 :: some v :: t) H) : gName 14 v (x0 :: x1 :: x2 :: x3 :: x4 :: x5 :: x6 :: x7 :: x8 :: x9 :: x10 :: x11 :: x12 :: x13 :: x14 :: t) H S := h
theorem r_au14 {x0 x1 x2 x3 x4 x5 x6 x7 x8 x9 x10 x11 x12 x13 : Option V} {v : V} {ti : TIp} (h : te (x0 :: x1 :: x2 :: x3 :: x4 :: x5 :: x6 :: x7 :: x8 :: x9 :: x10 :: x11 :: x12 :: x13 :: some v :: t) H fun y H1 => ti v y H1 fun z H2 => D.nx (x0 :: x1 :: x2 :: x3 :: x4 :: x5 :: x6 :: x7 :: x8 :: x9 :: x10 :: x11 :: x12 :: x13 :: some z :: t) H2) : tAug 14 te ti D (x0 :: x1 :: x2 :: x3 :: x4 :: x5 :: x6 :: x7 :: x8 :: x9 :: x10 :: x11 :: x12 :: x13 :: some v :: t) H := ⟨v, rfl, h⟩
theorem r_v15 {x0 x1 x2 x3 x4 x5 x6 x7 x8 x9 x10 x11 x12 x13 x14 : Option V} {v : V} (h : Q v H) : tVar 15 (x0 :: x1 :: x2 :: x3 :: x4 :: x5 :: x6 :: x7 :: x8 :: x9 :: x10 :: x11 :: x12 :: x13 :: x14 :: some v :: t) H Q := ⟨v, rfl, h⟩
theorem r_gn15 {x0 x1 x2 x3 x4 x5 x6 x7 x8 x9 x10 x11 x12 x13 x14 x15 : Option V} {v : V} {S : L2.St → Hp → Prop} (h : S (x0 :: x1 :: x2 :: x3 :: x4 :: x5 :: x6 :: x7 :: x8 :: x9 :: x10 :: x11 :: x12 :: x13 :: x14 :: some v :: t) H) : gName 15 v (x0 :: x1 :: x2 :: x3 :: x4 :: x5 :: x6 :: x7 :: x8 :: x9 :: x10 :: x11 :: x12 :: x13 :: x14 :: x15 :: t) H S := h
theorem r_au15 {x0 x1 x2 x3 x4 x5 x6 x7 x8 x9 x10 x11 x12 x13 x14 : Option V} {v : V} {ti : TIp} (h : te (x0 :: x1 :: x2 :: x3 :: x4 :: x5 :: x6 :: x7 :: x8 :: x9 :: x10 :: x11 :: x12 :: x13 :: x14 :: some v :: t) H fun y H1 => ti v y H1 fun z H2 => D.nx (x0 :: x1 :: x2 :: x3 :: x4 :: x5 :: x6 :: x7 :: x8 :: x9 :: x10 :: x11 :: x12 :: x13 :: x14 :: some z :: t) H2) : tAug 15 te ti D (x0 :: x1 :: x2 :: x3 :: x4 :: x5 :: x6 :: x7 :: x8 :: x9 :: x10 :: x11 :: x12 :: x13 :: x14 :: some v :: t) H := ⟨v, rfl, h⟩
theorem r_v16 {x0 x1 x2 x3 x4 x5 x6 x7 x8 x9 x10 x11 x12 x13 x14 x15 : Option V} {v : V} (h : Q v H) : tVar 16 (x0 :: x1 :: x2 :: x3 :: x4 :: x5 :: x6 :: x7 :: x8 :: x9 :: x10 :: x11 :: x12 :: x13 :: x14 :: x15 :: some v :: t) H Q := ⟨v, rfl, h⟩
theorem r_gn16 {x0 x1 x2 x3 x4 x5 x6 x7 x8 x9 x10 x11 x12 x13 x14 x15 x16 : Option V} {v : V} {S : L2.St → Hp → Prop} (h : S (x0 :: x1 :: x2 :: x3 :: x4 :: x5 :: x6 :: x7 :: x8 :: x9 :: x10 :: x11 :: x12 :: x13 :: x14 :: x15 :: some v :: t) H) : gName 16 v (x0 :: x1 :: x2 :: x3 :: x4 :: x5 :: x6 :: x7 :: x8 :: x9 :: x10 :: x11 :: x12 :: x13 :: x14 :: x15 :: x16 :: t) H S := h
theorem r_au16 {x0 x1 x2 x3 x4 x5 x6 x7 x8 x9 x10 x11 x12 x13 x14 x15 : Option V} {v : V} {ti : TIp} (h : te (x0 :: x1 :: x2 :: x3 :: x4 :: x5 :: x6 :: x7 :: x8 :: x9 :: x10 :: x11 :: x12 :: x13 :: x14 :: x15 :: some v :: t) H fun y H1 => ti v y H1 fun z H2 => D.nx (x0 :: x1 :: x2 :: x3 :: x4 :: x5 :: x6 :: x7 :: x8 :: x9 :: x10 :: x11 :: x12 :: x13 :: x14 :: x15 :: some z :: t) H2) : tAug 16 te ti D (x0 :: x1 :: x2 :: x3 :: x4 :: x5 :: x6 :: x7 :: x8 :: x9 :: x10 :: x11 :: x12 :: x13 :: x14 :: x15 :: some v :: t) H := ⟨v, rfl, h⟩
theorem r_v17 {x0 x1 x2 x3 x4 x5 x6 x7 x8 x9 x10 x11 x12 x13 x14 x15 x16 : Option V} {v : V} (h : Q v H) : tVar 17 (x0 :: x1 :: x2 :: x3 :: x4 :: x5 :: x6 :: x7 :: x8 :: x9 :: x10 :: x11 :: x12 :: x13 :: x14 :: x15 :: x16 :: some v :: t) H Q := ⟨v, rfl, h⟩
theorem r_gn17 {x0 x1 x2 x3 x4 x5 x6 x7 x8 x9 x10 x11 x12 x13 x14 x15 x16 x17 : Option V} {v : V} {S : L2.St → Hp → Prop} (h : S (x0 :: x1 :: x2 :: x3 :: x4 :: x5 :: x6 :: x7 :: x8 :: x9 :: x10 :: x11 :: x12 :: x13 :: x14 :: x15 :: x16 :: some v :: t) H) : gName 17 v (x0 :: x1 :: x2 :: x3 :: x4 :: x5 :: x6 :: x7 :: x8 :: x9 :: x10 :: x11 :: x12 :: x13 :: x14 :: x15 :: x16 :: x17 :: t) H S := h
theorem r_au17 {x0 x1 x2 x3 x4 x5 x6 x7 x8 x9 x10 x11 x12 x13 x14 x15 x16 : Option V} {v : V} {ti : TIp} (h : te (x0 :: x1 :: x2 :: x3 :: x4 :: x5 :: x6 :: x7 :: x8 :: x9 :: x10 :: x11 :: x12 :: x13 :: x14 :: x15 :: x16 :: some v :: t) H fun y H1 => ti v y H1 fun z H2 => D.nx (x0 :: x1 :: x2 :: x3 :: x4 :: x5 :: x6 :: x7 :: x8 :: x9 :: x10 :: x11 :: x12 :: x13 :: x14 :: x15 :: x16 :: some z :: t) H2) : tAug 17 te ti D (x0 :: x1 :: x2 :: x3 :: x4 :: x5 :: x6 :: x7 :: x8 :: x9 :: x10 :: x11 :: x12 :: x13 :: x14 :: x15 :: x16 :: some v :: t) H := ⟨v, rfl, h⟩
end
theorem lc_ok_tup {K : PySem.W.Frag} {σ : L2.St} {H : Hp} {te : TE} {tt : TT} {g : TG} {vs : List Nat} {D : Addr} {S : Hp → Prop} {a : Addr} {xs : List V} (Pv : Nat → Hp → Prop) (h0 : Pv 0 (upd H D (.lst []))) (hl : ∀ i H, i ≤ xs.length → Pv i H → SqT K H a xs)
    (hs : ∀ (i : Nat) x H, xs[i]? = some x → Pv i H → g x (wipe σ vs) H fun σ2 H2 => wipe σ2 vs = wipe σ vs ∧ tt σ2 H2 fun b H3 => if b = true then te σ2 H3 fun y H4 => Acc D (Pv (i + 1)) y H4 else Pv (i + 1) H3) (hd : ∀ H, Pv xs.length H → S H) : LcOk (Itt K a) g tt te vs σ D S H := lc_tup Pv h0 hl hs hd
/-! ### ranges of any ends -/
theorem turn_long {P : Program} {w : World} {K : PySem.W.Frag} {tg : Expr} (it : Addr) (lo : Int) (n : Nat) : Turn P w K tg (Itr lo n) [it] it (fun i h => IsLongIter h it (lo + (i : Nat) * 1) ((n : Int) - (i : Nat)) 1) := by
  have only : ∀ {b : Addr}, b ∈ [it] → b = it := fun h => List.mem_singleton.mp h
  refine ⟨List.mem_singleton.mpr rfl, ?_, ?_, ?_, ?_, ?_⟩
  · intro i h st b hb
    rw [only hb]
    refine ⟨_, st, fun v z => ?_⟩
    exact Data.noConfusion z
  · intro i h h' st k
    exact k it (List.mem_singleton.mpr rfl) _ st
  · rintro X rfl rfl rfl hc i pins s σ H E I hf st hg
    obtain ⟨f0, f1, f2, f3, f4, f5⟩ := hf it (List.mem_singleton.mpr rfl)
    refine (Walks.longrange (prog := X.prog) (w := X.w) (I.ok.hd hc) it lo 1 n).item i s _ _ hg st fun v h' tk hv st' kk => ?_
    obtain ⟨t, rfl⟩ := hv
    have I1 : Inv X pins σ H { s with heap := h', toks := tk } := I.turned (fun b o hb e => kk b o (fun z => hb (only z)) e) f0 f1 f3 f4 f5
    refine ⟨_, rfl, go_of (s := { s with heap := h', toks := tk }) (n := "longrange_iterator") st' rfl rfl (by decide) ⟨.int (lo + i), H, I1, ⟨t, ?_⟩, ⟨rfl, rfl⟩, st', fun b hb => (hf b hb).1⟩⟩
    rw [Int.mul_one]
  · rintro X rfl rfl rfl hc i pins s σ H E I hf st hg
    obtain ⟨f0, f1, f2, f3, f4, f5⟩ := hf it (List.mem_singleton.mpr rfl)
    have le : n ≤ i := hg
    refine wpAny_pyNext_long_end (I.ok.hd hc) st (by omega) fun h' eb => ⟨rfl, ?_⟩
    exact I.turned (t' := s.toks) (fun b o hb e => eb b o hb e) f0 f1 f3 f4 f5
  · intro _ _ _ _ _ st h
    exact wpAny_pyIter_longiter st h
def iRngW (ta : TA) : TI := fun σ H R => ta σ H fun vs H1 => ∃ i j : Int, vs = [.int i, .int j] ∧ R (Itr i (j - i).toNat) H1
theorem range_any {X : Cx} {tg : Expr} {pins : List (Addr × Obj)} {σ : L2.St} {H : Hp} {s : Shared} {R : It → Hp → Prop} {E : Value → Shared → Prop} {lo hi : Int} {t u v : Tok} {tk : Nat} (I : Inv X pins σ H s) (q : R (Itr lo (hi - lo).toNat) H) :
    wpAny (model X.prog X.w) X.A (pyIter (.ref s.heap.objs.size)) (PIE X pins σ tg R) E { s with heap := s.heap.push { cls := .type "range", data := .fields #[.int lo t, .int hi u, .int 1 v] }, toks := tk } := by
  have I1 : Inv X pins σ H { s with heap := s.heap.push { cls := .type "range", data := .fields #[.int lo t, .int hi u, .int 1 v] }, toks := tk } := I.kept fun b o e => Heap.get?_push_of_some _ e
  generalize hs1 : ({ s with heap := s.heap.push { cls := .type "range", data := .fields #[.int lo t, .int hi u, .int 1 v] }, toks := tk } : Shared) = s1 at I1
  have hr : IsRange s1.heap s.heap.objs.size lo hi 1 t u v := by
    rw [← hs1]
    exact IsRange.new ..
  have size : (((hi - lo).toNat : Nat) : Int) - ((0 : Nat) : Int) = Builtin.Range.rangeSize lo hi 1 := by
    rw [rangeSize_one]
    split <;> omega
  have first : lo + ((0 : Nat) : Int) * 1 = lo := by omega
  have fp : ∀ b, b ∈ [s1.heap.objs.size] → FpOk X pins H b := fun b hb => by
    rw [List.mem_singleton.mp hb]
    exact I1.fpOk (Nat.le_refl _) (I1.hok.fresh (Nat.le_refl _))
  cases hb : Builtin.Range.small lo hi 1 with
  | true =>
    refine wpAny_pyIter_range hr hb ⟨s1.heap.objs.size, [s1.heap.objs.size], _, _, H, rfl, I1.kept (t' := s1.toks) fun b o e => Heap.get?_push_of_some _ e, turn_range _ lo (hi - lo).toNat, ?_, fp, q⟩
    show IsRangeIter _ _ (lo + ((0 : Nat) : Int) * 1) _ 1
    rw [first, size]
    exact Heap.get?_push_size _ rfl
  | false =>
    refine wpAny_pyIter_longrange hr hb ⟨s1.heap.objs.size, [s1.heap.objs.size], _, _, H, rfl, I1.kept (t' := s1.toks) fun b o e => Heap.get?_push_of_some _ e, turn_long _ lo (hi - lo).toNat, ?_, fp, q⟩
    show IsLongIter _ _ (lo + ((0 : Nat) : Int) * 1) _ 1
    rw [first, size]
    exact Heap.get?_push_size _ rfl
theorem pi_rangeW {X : Cx} {tg a b : Expr} {ta : TA} {p pos : Pos} (hg : Gl X "range") (hm : X.mg "range" = none) (ha : PA X [a, b] ta) (hs : starEach [a, b] X.env = [(false, eval a X.env), (false, eval b X.env)] := by rfl) (hs2 : starEach [b] X.env = [(false, eval b X.env)] := by rfl) :
    PI X tg (.Call (.Name "range" p) [a, b] [] pos) (iRngW ta) := by
  constructor
  intro pins s σ H R I h
  refine Call_ (ld_blt I hg hm boot_range (PyProof.Rows.callWith_type1 (thn (ha.run pos pins s σ H _ I h) fun us s1 hh => ?_) (by rw [hs, hs2]) (by rw [hs2]; rfl)))
  obtain ⟨vs, H1, I1, r1, i, j, ev, q⟩ := hh
  subst ev
  obtain ⟨u1, u2, rfl, ⟨t1, rfl⟩, ⟨t2, rfl⟩⟩ := vals2 r1
  exact call_range_2 (range_any I1 q)
theorem r_rngW {σ : L2.St} {H : Hp} {ts : TA} {R : It → Hp → Prop} (h : ts σ H fun vs H1 => ∃ i j : Int, vs = [.int i, .int j] ∧ R (Itr i (j - i).toNat) H1) : iRngW ts σ H R := h
/-! ### words that are numbers -/
/-- a word's signs without a minus ahead -/
def figs : List Nat → List Nat
  | 45 :: r => r
  | l => l
def isDig (c : Nat) : Bool := decide (48 ≤ c) && decide (c ≤ 57)
/-- figures, and one at least -/
def digs (cs : List Nat) : Bool := !cs.isEmpty && cs.all isDig
def zeroAhead : List Nat → Bool
  | 48 :: _ => true
  | _ => false
/-- a word is a number -/
def isNumL (cs : List Nat) : Bool := digs (figs cs) && (decide (cs = [48]) || !zeroAhead (figs cs))
theorem subAt1 {x y : Str} {c : Nat} (hy : y.cps = #[c]) : Builtin.Str.subAt x y 0 = decide ((tl x).head? = some c) := by
  have e : Builtin.Str.subAt x y 0 = ((tl x).take 1 == [c]) := by
    rw [PySem.StrLaws.subAt_eq]
    have e1 : y.length = 1 := by
      show y.cps.size = 1
      rw [hy]
      rfl
    have e2 : y.cps.toList = [c] := by rw [hy]
    rw [e1, e2]
    rfl
  rw [e]
  cases tl x with
  | nil => rfl
  | cons a r =>
    show ([a] == [c]) = decide (some a = some c)
    by_cases h : a = c
    · subst h
      simp
    · have h2 : ¬ some a = some c := fun z => h (Option.some.inj z)
      rw [decide_eq_false h2]
      simp [h]
theorem tl_removeprefix (x : Str) : tl (Txt.removeprefix x "-") = figs (tl x) := by
  have hy : ("-" : Str).cps = #[45] := by decide +kernel
  have hl : ("-" : Str).length = 1 := by decide +kernel
  unfold Txt.removeprefix
  rw [subAt1 hy, hl]
  by_cases h : (tl x).head? = some 45
  · obtain ⟨r, hr⟩ : ∃ r, tl x = 45 :: r := by
      cases e : tl x with
      | nil =>
        rw [e] at h
        cases h
      | cons a r =>
        rw [e] at h
        exact ⟨r, by rw [Option.some.inj h]⟩
    have hlen : x.length = r.length + 1 := by
      rw [len_tl x, hr]
      rfl
    rw [if_pos (decide_eq_true h)]
    show tl (if (x.length - 1 == x.length) = true then x else Builtin.Str.strSub x 1 x.length) = _
    rw [if_neg (by rw [hlen]; simp), tl_strSub, hr]
    show (r.take (x.length - 1)) = r
    rw [hlen]
    exact List.take_length
  · rw [if_neg (by simp [h])]
    show tl x = figs (tl x)
    unfold figs
    split
    · rename_i r e
      rw [e] at h
      exact absurd rfl h
    · rfl
theorem dig_ascii : ∀ c : Nat, c < 128 → Unicode.isDigit c = isDig c := by decide +kernel
theorem digs_eq (x : Str) : (Txt.isascii x && Txt.isdigit x) = digs (tl x) := by
  have h1 : Txt.isascii x = (tl x).all (fun c => decide (c < 128)) := by
    show x.cps.all _ = x.cps.toList.all _
    rw [Array.all_toList]
  have h2 : Txt.isdigit x = (!(tl x).isEmpty && (tl x).all Unicode.isDigit) := by
    show (decide (x.length > 0) && x.cps.all Unicode.isDigit) = _
    rw [← Array.all_toList, len_tl x]
    show (decide ((tl x).length > 0) && (tl x).all Unicode.isDigit) = _
    cases tl x with
    | nil => rfl
    | cons a r =>
      show (decide ((a :: r).length > 0) && (a :: r).all Unicode.isDigit) = (!false && (a :: r).all Unicode.isDigit)
      rw [decide_eq_true (show (a :: r).length > 0 by simp)]
      rfl
  rw [h1, h2]
  unfold digs
  generalize tl x = l
  have h3 : (l.all (fun c => decide (c < 128)) && l.all Unicode.isDigit) = l.all isDig := by
    induction l with
    | nil => rfl
    | cons a r ih =>
      show ((decide (a < 128) && r.all _) && (Unicode.isDigit a && r.all _)) = (isDig a && r.all isDig)
      rw [← ih]
      by_cases ha : a < 128
      · rw [decide_eq_true ha, dig_ascii a ha]
        cases isDig a <;> cases (r.all fun c => decide (c < 128)) <;> cases (r.all Unicode.isDigit) <;> rfl
      · have : isDig a = false := by
          unfold isDig
          rw [decide_eq_false (show ¬ a ≤ 57 by omega), Bool.and_false]
        rw [decide_eq_false ha, this]
        rfl
  rw [← h3]
  cases l.isEmpty <;> cases (l.all fun c => decide (c < 128)) <;> cases (l.all Unicode.isDigit) <;> rfl
theorem starts0 (x : Str) : Txt.startswith x "0" = zeroAhead (tl x) := by
  have hy : ("0" : Str).cps = #[48] := by decide +kernel
  have hl : ("0" : Str).length = 1 := by decide +kernel
  unfold Txt.startswith
  rw [subAt1 hy, hl, len_tl x]
  unfold zeroAhead
  split
  · rename_i r e
    rw [e]
    simp
  · rename_i h
    cases e : tl x with
    | nil => rfl
    | cons a r =>
      have : ¬ a = 48 := fun z => h r (by rw [e, z])
      simp [this]
theorem eq0 (x : Str) : decide (V.str x = V.str "0") = decide (tl x = [48]) := by
  have h0 : tl ("0" : Str) = [48] := by decide +kernel
  by_cases h : tl x = [48]
  · have : x = "0" := ext_tl (by rw [h, h0])
    rw [decide_eq_true h, this]
    simp
  · rw [decide_eq_false h, decide_eq_false fun z => h (by rw [V.str.inj z, h0])]
/-! ### the text of a number -/
def num (i : Int) : Str := toString i
theorem tl_numI (i : Int) : tl (num i) = if i < 0 then 45 :: numL i.natAbs else numL i.natAbs := by
  cases i with
  | ofNat n =>
    rw [if_neg (by simp [Int.ofNat_eq_natCast])]
    exact tl_num n
  | negSucc n =>
    rw [if_pos (Int.negSucc_lt_zero n)]
    show tl (Str.ofString (toString (Int.negSucc n))) = 45 :: numL (n + 1)
    have e : toString (Int.negSucc n) = "-" ++ toString ((n + 1 : Nat) : Int) := rfl
    rw [e, tl_ofString, String.toList_append, List.map_append, ← tl_ofString (toString ((n + 1 : Nat) : Int)), tl_num]
    rfl
theorem numL_head : ∀ (k n : Nat), n ≤ k → 0 < n → zeroAhead (numL n) = false
  | 0, n, h, h0 => by omega
  | k + 1, n, h, h0 => by
    by_cases hn : n < 10
    · rw [numL_lt hn]
      unfold zeroAhead
      split
      · rename_i z
        have := (List.cons.inj z).1
        omega
      · rfl
    · have ih := numL_head k (n / 10) (by omega) (by omega)
      rw [numL_step (by omega)]
      cases e : numL (n / 10) with
      | nil => exact absurd e (numL_ne _)
      | cons a r =>
        rw [e] at ih
        unfold zeroAhead at ih ⊢
        split at ih
        · cases ih
        · rename_i h3
          show (match a :: (r ++ _) with | 48 :: _ => true | _ => false) = false
          split
          · rename_i z
            exact absurd (by rw [(List.cons.inj z).1]) (h3 r)
          · rfl
theorem digs_numL (n : Nat) : digs (numL n) = true := by
  unfold digs
  have h1 : (numL n).isEmpty = false := by
    cases e : numL n with
    | nil => exact absurd e (numL_ne n)
    | cons a r => rfl
  rw [h1]
  show (numL n).all isDig = true
  rw [List.all_eq_true]
  intro c hc
  have := numL_digits n c hc
  unfold isDig
  rw [decide_eq_true this.1, decide_eq_true this.2]
  rfl
theorem figs_numL (n : Nat) : figs (numL n) = numL n := by
  unfold figs
  split
  · rename_i r e
    have := numL_digits n 45 (by rw [e]; exact List.mem_cons_self ..)
    omega
  · rfl
theorem isNum_num (i : Int) : isNumL (tl (num i)) = true := by
  rw [tl_numI]
  unfold isNumL
  split
  · rename_i h
    show (digs (numL i.natAbs) && (_ || !zeroAhead (numL i.natAbs))) = true
    rw [digs_numL, numL_head i.natAbs i.natAbs (Nat.le_refl _) (by omega)]
    simp
  · rename_i h
    rw [figs_numL, digs_numL]
    by_cases h0 : i = 0
    · subst h0
      rfl
    · rw [numL_head i.natAbs i.natAbs (Nat.le_refl _) (by omega)]
      simp
theorem num_len {i : Int} {k : Nat} (hk : 0 < k) (h : i.natAbs < 10 ^ k) : (num i).length ≤ k + 1 := by
  have := numL_len hk h
  rw [len_tl, tl_numI]
  split
  · rw [List.length_cons]
    omega
  · omega
theorem num_read {i : Int} (h : (num i).length ≤ 4300) : intText? (num i) = some i := by
  have e := tl_numI i
  by_cases hi : i < 0
  · rw [if_pos hi] at e
    rw [PySem.intText_neg e (numL_digits _) (numL_ne _) h, numL_val]
    congr 1
    omega
  · rw [if_neg hi] at e
    rw [PySem.intText_digits (by rw [show (num i).cps.toList = tl (num i) from rfl, e]; exact numL_digits _) (by rw [show (num i).cps.toList = tl (num i) from rfl, e]; exact numL_ne _) h, show (num i).cps.toList = tl (num i) from rfl, e, numL_val]
    congr 1
    omega
theorem num_free (i : Int) : 32 ∉ tl (num i) := by
  rw [tl_numI]
  split
  · intro h
    rcases List.mem_cons.mp h with h | h
    · cases h
    · exact numL_free (s := 32) (.inl (by decide)) h
  · exact numL_free (.inl (by decide))
/-! ### the text of a line -/
def lineT (a b m : Int) : Str := num a ++ " " ++ num b ++ " " ++ num m
theorem line_split (a b m : Int) : Txt.split (lineT a b m) " " = [num a, num b, num m] := by
  have h := split_join (y := " ") (s := 32) (S := []) (by decide +kernel) (by decide +kernel) (parts := [num a, num b, num m]) (by simp) fun p hp => by
    simp only [List.mem_cons, List.not_mem_nil, or_false] at hp
    rcases hp with rfl | rfl | rfl <;> exact num_free _
  have e : Txt.join " " [num a, num b, num m] = lineT a b m := by
    rw [join_eq]
    refine ext_tl ?_
    show tl (num a ++ " " ++ (num b ++ " " ++ num m)) = tl (num a ++ " " ++ num b ++ " " ++ num m)
    simp only [tl_append, List.append_assoc]
  rw [← e]
  exact h
theorem len_append (x y : Str) : (x ++ y).length = x.length + y.length := by
  rw [len_tl, len_tl, len_tl, tl_append, List.length_append]
theorem line_len {a b m : Int} {k : Nat} (hk : 0 < k) (ha : a.natAbs < 10 ^ k) (hb : b.natAbs < 10 ^ k) (hm : m.natAbs < 10 ^ k) : (lineT a b m).length ≤ 3 * k + 5 := by
  have h1 := num_len hk ha
  have h2 := num_len hk hb
  have h3 := num_len hk hm
  have h4 : (" " : Str).length = 1 := by decide +kernel
  unfold lineT
  rw [len_append, len_append, len_append, len_append, h4]
  omega
/-! ### numbers made of figures -/
theorem digv_fold : ∀ (cs : List Nat) (acc : Nat), PySem.NumText.AllDigits cs → cs.foldl (fun acc c => acc * 10 + (c - 48)) acc < (acc + 1) * 10 ^ cs.length
  | [], acc, _ => by simp
  | c :: cs, acc, h => by
    have h1 := h c (List.mem_cons_self ..)
    have h2 := digv_fold cs (acc * 10 + (c - 48)) fun d hd => h d (List.mem_cons_of_mem _ hd)
    rw [List.foldl_cons, List.length_cons, Nat.pow_succ]
    refine Nat.lt_of_lt_of_le h2 ?_
    rw [Nat.mul_comm (10 ^ cs.length) 10, ← Nat.mul_assoc]
    exact Nat.mul_le_mul_right _ (by omega)
theorem digv_lt (cs : List Nat) (h : PySem.NumText.AllDigits cs) : PySem.NumText.digitsVal cs < 10 ^ cs.length := by
  have := digv_fold cs 0 h
  rw [Nat.zero_add, Nat.one_mul] at this
  exact this
theorem joinL0 : ∀ ps : List (List Nat), joinL [] ps = ps.flatten
  | [] => rfl
  | [p] => by simp [joinL]
  | p :: q :: r => by
    show p ++ ([] ++ joinL [] (q :: r)) = _
    rw [joinL0 (q :: r), List.nil_append]
    simp
def dgs (ds : List Nat) : List Str := ds.map fun (d : Nat) => num (d : Int)
theorem tl_dgs (ds : List Nat) (h : ∀ d ∈ ds, d < 10) : tl (Txt.join "" (dgs ds)) = ds.map (48 + ·) := by
  rw [join_eq, tl_join, show tl ("" : Str) = [] from rfl, joinL0]
  unfold dgs
  rw [List.map_map]
  induction ds with
  | nil => rfl
  | cons d ds ih =>
    rw [List.map_cons, List.flatten_cons, ih fun x hx => h x (List.mem_cons_of_mem _ hx)]
    show tl (num (d : Int)) ++ _ = _
    rw [tl_numI, if_neg (by omega), Int.natAbs_natCast, numL_lt (h d (List.mem_cons_self ..))]
    rfl
theorem dgs_read (ds : List Nat) (h : ∀ d ∈ ds, d < 10) (h0 : ds ≠ []) (hl : ds.length ≤ 600) : ∃ n : Nat, PySem.intText? (Txt.join "" (dgs ds)) = some (n : Int) ∧ n < 10 ^ ds.length ∧ (Txt.join "" (dgs ds)).length ≤ 640 := by
  have e := tl_dgs ds h
  have ad : PySem.NumText.AllDigits (Txt.join "" (dgs ds)).cps.toList := by
    rw [show (Txt.join "" (dgs ds)).cps.toList = _ from e]
    intro c hc
    obtain ⟨d, hd, rfl⟩ := List.mem_map.mp hc
    have := h d hd
    omega
  have len : (Txt.join "" (dgs ds)).length = ds.length := by
    rw [len_tl, e, List.length_map]
  refine ⟨_, PySem.intText_digits ad ?_ (by omega), ?_, by omega⟩
  · rw [show (Txt.join "" (dgs ds)).cps.toList = _ from e]
    intro z
    exact h0 (List.map_eq_nil_iff.mp z)
  · have := digv_lt _ ad
    rw [show (Txt.join "" (dgs ds)).cps.toList.length = _ from congrArg List.length e, List.length_map] at this
    exact this
theorem dgs_len : ∀ ds : List Nat, (∀ d ∈ ds, d < 10) → ((dgs ds).map (·.length)).sum = ds.length
  | [], _ => rfl
  | d :: ds, h => by
    have h1 := dgs_len ds fun x hx => h x (List.mem_cons_of_mem _ hx)
    have h2 : (num (d : Int)).length = 1 := by
      rw [len_tl, tl_numI, if_neg (by omega), Int.natAbs_natCast, numL_lt (h d (List.mem_cons_self ..))]
      rfl
    unfold dgs at *
    rw [List.map_cons, List.map_cons, List.sum_cons, List.length_cons]
    omega
theorem dgs_app (ds : List Nat) (d : Nat) : (dgs (ds ++ [d])).map V.str = (dgs ds).map V.str ++ [.str (num (d : Int))] := by
  unfold dgs
  rw [List.map_append, List.map_append]
  rfl
/-! ### enumerate of a list or of a tuple -/
section
/-- the enumerate object that is new at the end of the heap -/
abbrev enObj (it : Addr) : Obj := { cls := .type "enumerate", data := .fields #[.none, .bool false, .ref it, rawInt 0, .none, .none] }
set_option maxHeartbeats 1000000 in
theorem en_new {v : Value} {io : Obj} {Hv : Heap → Prop} (B : Begins v io Hv) : Meets (Builtin.«enumerate.__new__» ⟨[.type "enumerate", v], []⟩) (fun _ R S => Hv S.heap ∧
    R (.ok (.ret (.ref (S.heap.push io).objs.size))) { S with heap := (S.heap.push io).push (enObj S.heap.objs.size) }) :=
  .of_wp fun prog w A R S hh => by
    obtain ⟨hp, gg, dd, tt, oo⟩ := S
    obtain ⟨hv, hR⟩ := hh
    have hsub := sub_enumerate
    have it1 : ∀ {A1 : Around} {E1 : Value → Shared → Prop} {Q1 : Value → Shared → Prop}, Q1 (.ref hp.objs.size) ⟨hp.push io, gg, dd, tt, oo⟩ → wpAny (model prog w) A1 (pyIter v) Q1 E1 ⟨hp, gg, dd, tt, oo⟩ :=
      fun z => B.iter prog w _ _ ⟨hp, gg, dd, tt, oo⟩ _ hv z
    wp_walk using it1
    refine wpAny_stack_any fun _ => wpAny_pure ?_
    split
    · rename_i c _ _ _ _ _
      cases (c == Value.type "enumerate")
      all_goals
        wp_walk using it1
        exact ⟨_, rfl, hR⟩
    · wp_walk using it1
      exact ⟨_, rfl, hR⟩
theorem en_call {prog : Program} {w : World} {A : Around} {E : Value → Shared → Prop} {S : Shared} {v : Value} {io : Obj} {Hv : Heap → Prop} {Q : Value → Shared → Prop} (B : Begins v io Hv) (hv : Hv S.heap)
    (go : ∀ hn, IsEnum hn (S.heap.objs.size + 1) S.heap.objs.size 0 .none → hn.get? S.heap.objs.size = some io → (∀ b o, S.heap.get? b = some o → hn.get? b = some o) → Q (.ref (S.heap.objs.size + 1)) { S with heap := hn }) :
    wpAny (model prog w) A (call (.type "enumerate") [v]) Q E S := by
  refine callType_new F.called_enumerate (by decide) (F.typeCall_enumerate_1 _) (F.newCall_enumerate_1 _) (fun ob => F.args_object_init_2 ob _) F.entry_enumerate_new (en_new B) ⟨hv, ?_⟩
  have sz : (S.heap.push io).objs.size = S.heap.objs.size + 1 := Heap.size_push ..
  show _ ∧ _
  rw [sz]
  have isE : IsEnum ((S.heap.push io).push (enObj S.heap.objs.size)) (S.heap.objs.size + 1) S.heap.objs.size 0 .none := by
    have z := Heap.get?_push_size (S.heap.push io) (o := enObj S.heap.objs.size) rfl
    rw [sz] at z
    exact z
  exact ⟨⟨_, isE, rfl⟩, go _ isE (Heap.get?_push_of_some _ (Heap.get?_push_size _ B.free)) fun b o z => Heap.get?_push_of_some _ (Heap.get?_push_of_some _ z)⟩
end
/-- the tuple at a, each item in a new pair with its number -/
def IteT (K : PySem.W.Frag) (a : Addr) : It where
  go := fun i H => ∃ (xs : List V) (x : V), SqT K H a xs ∧ xs[i]? = some x
  yld := fun i H v G => ∃ q x, v = .ref q ∧ H q = none ∧ G = upd H q (.tup [.int (i : Nat), x]) ∧ ∀ xs, SqT K H a xs → xs[i]? = some x
  stop := fun i H => ∃ xs : List V, SqT K H a xs ∧ xs.length = i
theorem turn_enT {P : Program} {w : World} {K : PySem.W.Frag} {elts : List Expr} {kk : Nat} {tpos : Pos} (a en it : Addr) (hea : en ≠ a) (hia : it ≠ a) :
    Turn P w K (.Tuple elts kk tpos) (IteT K a) [en, it] en (fun i h => (∃ old, IsEnum h en it ((i : Nat) : Int) old) ∧ h.IsTupleIter it a i ∧ en ≠ it) where
  mem := by simp
  obj := by
    rintro i h ⟨⟨old, isE⟩, ⟨oi, gi, _, di⟩, _⟩ b hb
    rcases (show b = en ∨ b = it by simpa using hb) with rfl | rfl
    · exact ⟨_, isE, fun v z => nomatch z⟩
    · exact ⟨oi, gi, fun v z => by rw [di] at z; cases z⟩
  keep := by
    rintro i h h2 ⟨⟨old, isE⟩, hi, hn⟩ k
    exact ⟨⟨old, k en (by simp) _ isE⟩, hi.at fun o z => k it (by simp) o z, hn⟩
  item := by
    intro X hP hw hK hc i pins S σ H E I hf st hg
    subst hP hw hK
    obtain ⟨⟨old, isE⟩, hit, hn⟩ := st
    obtain ⟨xs, x, sq, hx⟩ := hg
    obtain ⟨its, rv, tp, _⟩ := I.tuple sq
    obtain ⟨u, hu, ru⟩ := rv.get hx
    have ltE : en < S.heap.objs.size := Heap.lt_size isE
    have ltI : it < S.heap.objs.size := by
      obtain ⟨_, z, _⟩ := hit
      exact Heap.lt_size z
    have hlt : i < its.toArray.size := by
      have := (List.getElem?_eq_some_iff.mp hu).1
      simpa using this
    have nef : en ∉ [it, a] := by
      intro z
      rcases (show en = it ∨ en = a by simpa using z) with z | z
      · exact hn z
      · exact hea z
    refine wpAny_pyNext_enum_itemD (Draws.tuple (A := X.A.in1) (show X.A.in1.handled = none from I.ok.hd hc) it a (Ne.symm hia) its.toArray) isE ⟨hit, tp⟩ hlt hn nef fun y h2 tk py out st2 hT _ hk => ?_
    obtain rfl : y = u := by
      have z : its.toArray[i]? = some u := by simpa using hu
      rw [z] at py
      exact (Option.some.inj py).symm
    refine ⟨_, rfl, wpAny_letOwnedTupleGo_enum (s := { S with heap := h2, toks := tk + 1 }) out fun h3 isE3 sb => ?_⟩
    have hT3 : h3.get? S.heap.objs.size = some { cls := .type "tuple", data := .seq #[.int i tk, y] } := (sb.2 _ (Nat.ne_of_gt ltE)).trans hT
    have okN : ObjOk X.prog X.w (upd H S.heap.objs.size (.tup [.int (i : Nat), x])) h3 S.heap.objs.size (.tup [.int (i : Nat), x]) := by
      refine ⟨?_, [.int i tk, y], .cons ⟨_, rfl⟩ (.cons ru .nil), ⟨_, hT3, rfl, _, rfl⟩⟩
      show 2 ≤ sizeLine
      decide
    have I3 : Inv X pins σ (upd H S.heap.objs.size (.tup [.int (i : Nat), x])) { S with heap := h3, toks := tk + 1 } := by
      refine I.turnedNew (ch := [en, it]) (fun b ob hb z => ?_) hf (Nat.le_refl _) okN
      have n1 : b ≠ en := fun w => hb (by simp [w])
      have n2 : b ≠ it := fun w => hb (by simp [w])
      exact (sb.2 b n1).trans (hk b ob n1 n2 z)
    refine ⟨.ref S.heap.objs.size, _, I3, rfl, ⟨_, x, rfl, I.hok.fresh (Nat.le_refl _), rfl, fun ys hy => ?_⟩, ⟨⟨y, ?_⟩, st2.1.at fun o z => (sb.2 it (Ne.symm hn)).trans z, hn⟩, fun b hb => ?_⟩
    · rw [I.tuple_inj hy sq]
      exact hx
    · rw [show ((i + 1 : Nat) : Int) = (i : Int) + 1 by omega]
      exact isE3
    · have ltb : b < S.heap.objs.size := by
        rcases (show b = en ∨ b = it by simpa using hb) with rfl | rfl
        · exact ltE
        · exact ltI
      rw [upd_ne (Nat.ne_of_lt ltb)]
      exact (hf b hb).1
  done := by
    intro X hP hw hK hc i pins S σ H E I hf st hg
    subst hP hw hK
    obtain ⟨⟨old, isE⟩, hit, hn⟩ := st
    obtain ⟨xs, sq, hx⟩ := hg
    obtain ⟨its, rv, tp, _⟩ := I.tuple sq
    obtain ⟨f0, f1, f2, f3, f4, f5⟩ := hf it (by simp)
    have ln : its.toArray.size = i := by
      have z := rv.length
      simp only [List.size_toArray]
      omega
    have st : its.toArray.size = i → (S.heap.IsTupleIter it a its.toArray.size ∧ S.heap.IsTuple a its.toArray) := fun z => by
      rw [z]
      exact ⟨hit, tp⟩
    refine wpAny_pyNext_enum_endD (Draws.tuple (A := X.A.in1) (show X.A.in1.handled = none from I.ok.hd hc) it a (Ne.symm hia) its.toArray) isE (st ln) fun h2 eb => ⟨rfl, ?_⟩
    exact I.turned (t' := S.toks) (fun b o hb z => eb b o hb z) f0 f1 f3 f4 f5
  self := fun A i S Q E st z => let ⟨⟨_, isE⟩, _⟩ := st; wpAny_pyIter_enum isE z
def iEnumA (K : PySem.W.Frag) (ta : TA) : TI := fun σ H R => ta σ H fun vs G => ∃ (a : Addr) (xs : List V), vs = [.ref a] ∧ ((SqL K G a xs ∧ R (Ite K a) G) ∨ (SqT K G a xs ∧ R (IteT K a) G))
theorem pi_enumA {X : Cx} {e : Expr} {ta : TA} {pn pc pt : Pos} {elts : List Expr} {kk : Nat} (hg : Gl X "enumerate") (hm : X.mg "enumerate" = none) (ha : PA X [e] ta) (hs : starEach [e] X.env = [(false, eval e X.env)] := by rfl) :
    PI X (.Tuple elts kk pt) (.Call (.Name "enumerate" pn) [e] [] pc) (iEnumA X.K ta) := by
  constructor
  intro pins S σ H R I h
  refine Call_ (ld_blt I hg hm boot_enumerate (PyProof.Rows.callWith_type1 (thn (ha.run pc pins S σ H _ I h) fun us S1 hh => ?_) hs rfl))
  obtain ⟨vs, G, I1, rel, a, xs, ev, way⟩ := hh
  subst ev
  match us, rel with
  | [_], .cons r1 .nil =>
  cases r1
  have fresh2 : ∀ b, b ∈ [S1.heap.objs.size + 1, S1.heap.objs.size] → FpOk X pins G b := fun b hb => by
    have le : S1.heap.objs.size ≤ b := by
      rcases (show b = S1.heap.objs.size + 1 ∨ b = S1.heap.objs.size by simpa using hb) with z | z
      · rw [z]
        exact Nat.le_succ _
      · rw [z]
        exact Nat.le_refl _
    exact I1.fpOk le (I1.hok.fresh le)
  rcases way with ⟨sq, hR⟩ | ⟨sq, hR⟩
  · obtain ⟨its, rv, pl, _⟩ := I1.list sq
    refine call_enumerate_list pl.isList fun hn isE isI _ hk => wpAny_pyIter_enum isE ?_
    exact ⟨S1.heap.objs.size + 1, [S1.heap.objs.size + 1, S1.heap.objs.size], _, _, G, rfl, I1.kept (t' := S1.toks) hk, turn_enum a (S1.heap.objs.size + 1) S1.heap.objs.size, ⟨⟨.none, isE⟩, isI, Nat.succ_ne_self _⟩, fresh2, hR⟩
  · obtain ⟨its, rv, tp, _⟩ := I1.tuple sq
    have lta : a < S1.heap.objs.size := by
      obtain ⟨o, z, _⟩ := id tp
      exact Heap.lt_size z
    refine en_call (begins_tuple a its.toArray) tp fun hn isE gi hk => wpAny_pyIter_enum isE ?_
    exact ⟨S1.heap.objs.size + 1, [S1.heap.objs.size + 1, S1.heap.objs.size], _, _, G, rfl, I1.kept (t' := S1.toks) hk, turn_enT a (S1.heap.objs.size + 1) S1.heap.objs.size (Nat.ne_of_gt (Nat.lt_succ_of_lt lta)) (Nat.ne_of_gt lta), ⟨⟨.none, isE⟩, ⟨_, gi, rfl, rfl⟩, Nat.succ_ne_self _⟩, fresh2, hR⟩
section
variable {K : PySem.W.Frag} {D : Ends} {σ : L2.St} {H : Hp} {t : TS}
theorem r_ifE {Q : VK} {tt : TT} {ta tb : TE} (h : tt σ H fun c G => if c = true then ta σ G Q else tb σ G Q) : tIf tt ta tb σ H Q := h
theorem r_enumA {ts : TA} {R : It → Hp → Prop} (h : ts σ H fun vs G => ∃ (a : Addr) (xs : List V), vs = [.ref a] ∧ ((SqL K G a xs ∧ R (Ite K a) G) ∨ (SqT K G a xs ∧ R (IteT K a) G))) : iEnumA K ts σ H R := h
theorem loop_enL {a : Addr} {xs : List V} {g : TG} (Pv : Nat → L2.St → Hp → Prop) (h0 : Pv 0 σ H) (hl : ∀ i σ H, i ≤ xs.length → Pv i σ H → SqL K H a xs)
    (hs : ∀ i x q σ H, xs[i]? = some x → Pv i σ H → H q = none → g (.ref q) σ (upd H q (.tup [.int (i : Nat), x])) fun σ2 H2 => t { D with nx := Pv (i + 1), ct := Pv (i + 1), bk := D.nx } σ2 H2) (hd : ∀ σ H, Pv xs.length σ H → D.nx σ H) : LoopOk (Ite K a) g t D σ H := by
  refine ⟨fun i m σ H => i ≤ xs.length ∧ m = xs.length - i ∧ Pv i σ H, ⟨_, Nat.zero_le _, rfl, h0⟩, ?_⟩
  rintro i m σ H ⟨hi, hm, hp⟩
  have sq := hl i σ H hi hp
  by_cases h : i < xs.length
  · refine .inr ⟨⟨xs, xs[i], sq, List.getElem?_eq_getElem h⟩, Pv (i + 1), fun σ' H' z => ⟨xs.length - (i + 1), by omega, by omega, rfl, z⟩, ?_⟩
    rintro v H' ⟨q, x, rfl, nq, rfl, hx⟩
    exact hs i x q σ H (hx xs sq) hp nq
  · obtain rfl : i = xs.length := by omega
    exact .inl ⟨⟨xs, sq, Nat.le_refl _⟩, hd σ H hp⟩
theorem loop_enT {a : Addr} {xs : List V} {g : TG} (Pv : Nat → L2.St → Hp → Prop) (h0 : Pv 0 σ H) (hl : ∀ i σ H, i ≤ xs.length → Pv i σ H → SqT K H a xs)
    (hs : ∀ i x q σ H, xs[i]? = some x → Pv i σ H → H q = none → g (.ref q) σ (upd H q (.tup [.int (i : Nat), x])) fun σ2 H2 => t { D with nx := Pv (i + 1), ct := Pv (i + 1), bk := D.nx } σ2 H2) (hd : ∀ σ H, Pv xs.length σ H → D.nx σ H) : LoopOk (IteT K a) g t D σ H := by
  refine ⟨fun i m σ H => i ≤ xs.length ∧ m = xs.length - i ∧ Pv i σ H, ⟨_, Nat.zero_le _, rfl, h0⟩, ?_⟩
  rintro i m σ H ⟨hi, hm, hp⟩
  have sq := hl i σ H hi hp
  by_cases h : i < xs.length
  · refine .inr ⟨⟨xs, xs[i], sq, List.getElem?_eq_getElem h⟩, Pv (i + 1), fun σ' H' z => ⟨xs.length - (i + 1), by omega, by omega, rfl, z⟩, ?_⟩
    rintro v H' ⟨q, x, rfl, nq, rfl, hx⟩
    exact hs i x q σ H (hx xs sq) hp nq
  · obtain rfl : i = xs.length := by omega
    exact .inl ⟨⟨xs, sq, rfl⟩, hd σ H hp⟩
end
/-! ### three comparisons in a row -/
def tCh3 (o1 o2 o3 : R2) (t1 t2 t3 t4 : TE) : TE := fun σ H Q =>
  t1 σ H fun x1 G1 => t2 σ G1 fun x2 G2 => o1 x1 x2 G2 fun y1 G3 => ∃ k1, y1 = .bl k1 ∧
    if k1 = true then
      (t3 σ G3 fun x3 G4 => o2 x2 x3 G4 fun y2 G5 => ∃ k2, y2 = .bl k2 ∧ if k2 = true then (t4 σ G5 fun x4 G6 => o3 x3 x4 G6 Q) else Q (.bl false) G5)
    else Q (.bl false) G3
theorem pe_ch3 {X : Cx} {p1 p2 p3 : CmpOp} {o1 o2 o3 : R2} {e1 e2 e3 e4 : Expr} {t1 t2 t3 t4 : TE} {at_ : Pos} (w1 : OpR X (compareOp p1) o1) (w2 : OpR X (compareOp p2) o2) (w3 : OpR X (compareOp p3) o3)
    (d1 : PE X e1 t1) (d2 : PE X e2 t2) (d3 : PE X e3 t3) (d4 : PE X e4 t4) (mk : lastMarks [p1, p2, p3] [e2, e3, e4] = false := by with_unfolding_all rfl) :
    PE X (.Compare e1 [p1, p2, p3] [e2, e3, e4] at_) (tCh3 o1 o2 o3 t1 t2 t3 t4) := by
  constructor
  intro pins S σ H Q I h
  refine Compare_chain (thn (d1.run pins S σ H _ I h) ?_) mk
  rintro u1 S1 ⟨x1, G1, I1, r1, h1⟩
  refine chain_link (thn (d2.run pins S1 σ G1 _ I1 h1) ?_)
  rintro u2 S2 ⟨x2, G2, I2, r2, h2⟩
  refine thn (w1 pins S2 σ G2 x1 x2 u1 u2 _ I2 r1 r2 h2) ?_
  rintro v1 S3 ⟨y1, G3, I3, q1, k1, rfl, h3⟩
  cases q1
  refine wpAny_truthy_bool ?_
  cases k1
  · exact ite_ff ⟨V.bl false, G3, I3, rfl, h3⟩
  refine ite_tt (chain_link (thn (d3.run pins S3 σ G3 _ I3 h3) ?_))
  rintro u3 S4 ⟨x3, G4, I4, r3, h4⟩
  refine thn (w2 pins S4 σ G4 x2 x3 u2 u3 _ I4 r2 r3 h4) ?_
  rintro v2 S5 ⟨y2, G5, I5, q2, k2, rfl, h5⟩
  cases q2
  refine wpAny_truthy_bool ?_
  cases k2
  · exact ite_ff ⟨V.bl false, G5, I5, rfl, h5⟩
  refine ite_tt (chain_last (thn (d4.run pins S5 σ G5 _ I5 h5) ?_))
  rintro u4 S6 ⟨x4, G6, I6, r4, h6⟩
  exact w3 pins S6 σ G6 x3 x4 u3 u4 Q I6 r3 r4 h6
theorem r_ch3 {σ : L2.St} {H : Hp} {Q : VK} {o1 o2 o3 : R2} {t1 t2 t3 t4 : TE} (h : t1 σ H fun x1 G1 => t2 σ G1 fun x2 G2 => o1 x1 x2 G2 fun y1 G3 => ∃ k1, y1 = .bl k1 ∧
    if k1 = true then (t3 σ G3 fun x3 G4 => o2 x2 x3 G4 fun y2 G5 => ∃ k2, y2 = .bl k2 ∧ if k2 = true then (t4 σ G5 fun x4 G6 => o3 x3 x4 G6 Q) else Q (.bl false) G5) else Q (.bl false) G3) : tCh3 o1 o2 o3 t1 t2 t3 t4 σ H Q := h
/-! ### the mathematics of sums along a line -/
def sumF (f : Nat → Int) : Nat → Int
  | 0 => 0
  | n + 1 => sumF f n + f n
theorem sumF_congr {f g : Nat → Int} : ∀ {n : Nat}, (∀ x, x < n → f x = g x) → sumF f n = sumF g n
  | 0, _ => rfl
  | n + 1, h => by
    show sumF f n + f n = sumF g n + g n
    rw [sumF_congr fun x hx => h x (Nat.lt_succ_of_lt hx), h n (Nat.lt_succ_self n)]
theorem sumF_add (f g : Nat → Int) : ∀ n : Nat, sumF (fun x => f x + g x) n = sumF f n + sumF g n
  | 0 => rfl
  | n + 1 => by
    show sumF (fun x => f x + g x) n + (f n + g n) = (sumF f n + f n) + (sumF g n + g n)
    rw [sumF_add f g n]
    omega
theorem sumF_mul (c : Int) (f : Nat → Int) : ∀ n : Nat, sumF (fun x => c * f x) n = c * sumF f n
  | 0 => (Int.mul_zero c).symm
  | n + 1 => by
    show sumF (fun x => c * f x) n + c * f n = c * (sumF f n + f n)
    rw [sumF_mul c f n, Int.mul_add]
theorem sumF_const (c : Int) : ∀ n : Nat, sumF (fun _ => c) n = c * n
  | 0 => (Int.mul_zero c).symm
  | n + 1 => by
    show sumF (fun _ => c) n + c = c * ((n + 1 : Nat) : Int)
    rw [sumF_const c n, Int.natCast_add, Int.mul_add]
    show c * n + c = c * n + c * 1
    rw [Int.mul_one]
theorem sumF_zero : ∀ n : Nat, sumF (fun _ => 0) n = 0
  | 0 => rfl
  | n + 1 => by
    show sumF (fun _ => 0) n + 0 = 0
    rw [sumF_zero n]
    rfl
/-- the sum of the places -/
def tri (n : Int) : Int := n * (n - 1) / 2
theorem tri_two (n : Int) : 2 * tri n = n * (n - 1) := by
  unfold tri
  have h : n * (n - 1) % 2 = 0 := by
    rcases Int.emod_two_eq n with h | h
    · rw [Int.mul_emod, h, Int.zero_mul]
      rfl
    · have h2 : (n - 1) % 2 = 0 := by omega
      rw [Int.mul_emod, h2, Int.mul_zero]
      rfl
  omega
theorem tri_succ (n : Int) : tri (n + 1) = tri n + n := by
  have h1 := tri_two (n + 1)
  have h2 := tri_two n
  have e : (n + 1) * (n + 1 - 1) = n * (n - 1) + 2 * n := by
    rw [show n + 1 - 1 = n by omega, Int.add_mul, Int.mul_sub, Int.one_mul, Int.mul_one]
    omega
  omega
theorem sumF_id : ∀ n : Nat, sumF (fun x => (x : Int)) n = tri n
  | 0 => rfl
  | n + 1 => by
    show sumF (fun x => (x : Int)) n + n = tri ((n + 1 : Nat) : Int)
    rw [sumF_id n, Int.natCast_add]
    exact (tri_succ n).symm
theorem sumF_lin (q r : Int) (n : Nat) : sumF (fun x => q * (x : Int) + r) n = q * tri n + r * n := by
  rw [sumF_add (fun x => q * (x : Int)) (fun _ => r) n, sumF_mul q (fun x => (x : Int)) n, sumF_id, sumF_const]
/-- the parts' and the rests' sum -/
def sumP (a b m : Int) (n : Nat) : Int := sumF (fun x => (a * x + b) / m) n
def sumR (a b m : Int) (n : Nat) : Int := sumF (fun x => (a * x + b) % m) n
theorem sum_both (a b m : Int) (n : Nat) : m * sumP a b m n + sumR a b m n = a * tri n + b * n := by
  unfold sumP sumR
  rw [← sumF_mul, ← sumF_add, ← sumF_lin]
  exact sumF_congr fun x _ => Int.mul_ediv_add_emod _ m
theorem sumR_eq (a b m : Int) (n : Nat) : sumR a b m n = a * tri n + b * n - m * sumP a b m n := by
  have := sum_both a b m n
  omega
theorem part_laid {a b m x : Int} (hm : 0 < m) : (a * x + b) / m = (a / m * x + b / m) + (a % m * x + b % m) / m := by
  have ea := Int.mul_ediv_add_emod a m
  have eb := Int.mul_ediv_add_emod b m
  have e : a * x + b = (a % m * x + b % m) + m * (a / m * x + b / m) := by
    have h1 : a * x = (m * (a / m) + a % m) * x := by rw [ea]
    rw [h1, Int.add_mul, Int.mul_add m, Int.mul_assoc]
    omega
  rw [e, Int.add_mul_ediv_left _ _ (by omega : m ≠ 0)]
  omega
theorem sum_laid {a b m : Int} (hm : 0 < m) (n : Nat) : sumP a b m n = a / m * tri n + b / m * n + sumP (a % m) (b % m) m n := by
  unfold sumP
  rw [← sumF_lin, ← sumF_add]
  exact sumF_congr fun x _ => part_laid hm
/-- a truth as a number -/
def one (p : Prop) [Decidable p] : Int := if p then 1 else 0
theorem sumF_swap (f : Nat → Nat → Int) (k : Nat) : ∀ n : Nat, sumF (fun x => sumF (fun y => f x y) k) n = sumF (fun y => sumF (fun x => f x y) n) k
  | 0 => by
    show 0 = sumF (fun _ => 0) k
    rw [sumF_zero]
  | n + 1 => by
    show sumF (fun x => sumF (fun y => f x y) k) n + sumF (fun y => f n y) k = sumF (fun y => sumF (fun x => f x y) n + f n y) k
    rw [sumF_swap f k n, sumF_add]
/-- how many of the first k numbers from 1 on are no more than v -/
theorem count_le (v : Int) : ∀ k : Nat, 0 ≤ v → sumF (fun y => one ((y : Int) + 1 ≤ v)) k = if v ≤ k then v else k
  | 0, h => by
    show (0 : Int) = _
    split
    · omega
    · rfl
  | k + 1, h => by
    show sumF (fun y => one ((y : Int) + 1 ≤ v)) k + one ((k : Int) + 1 ≤ v) = _
    rw [count_le v k h]
    unfold one
    split <;> split <;> split <;> omega
theorem sumF_rev (f : Nat → Int) : ∀ n : Nat, sumF (fun x => f (n - 1 - x)) n = sumF f n
  | 0 => rfl
  | n + 1 => by
    have h : ∀ (g : Nat → Int) (n : Nat), sumF g (n + 1) = g 0 + sumF (fun x => g (x + 1)) n := by
      intro g n
      induction n with
      | zero =>
        show 0 + g 0 = g 0 + 0
        omega
      | succ n ih =>
        show sumF g (n + 1) + g (n + 1) = g 0 + (sumF (fun x => g (x + 1)) n + g (n + 1))
        rw [ih]
        omega
    rw [h (fun x => f (n + 1 - 1 - x)) n]
    show f (n + 1 - 1 - 0) + sumF (fun x => f (n + 1 - 1 - (x + 1))) n = sumF f n + f n
    rw [sumF_congr (g := fun x => f (n - 1 - x)) fun x hx => by
      show f (n + 1 - 1 - (x + 1)) = f (n - 1 - x)
      congr 1
      omega]
    rw [sumF_rev f n, show n + 1 - 1 - 0 = n by omega]
    omega
/-- the turned line's parts come to the same -/
theorem sum_turned {a b m : Int} (ha : 0 ≤ a) (ham : a < m) (hb : 0 ≤ b) (hbm : b < m) (n : Nat) (hk : 0 < (a * n + b) / m) :
    sumP a b m n = sumP m ((a * n + b) % m) a ((a * n + b) / m).toNat := by
  have hm : 0 < m := by omega
  have ha' : 0 < a := by
    rcases Int.lt_or_eq_of_le ha with h | h
    · exact h
    · subst h
      rw [Int.zero_mul, Int.zero_add, Int.ediv_eq_zero_of_lt hb hbm] at hk
      omega
  generalize hr : (a * (n : Int) + b) % m = r
  have hr0 : 0 ≤ r := by rw [← hr]; exact Int.emod_nonneg _ (by omega)
  have hr1 : r < m := by rw [← hr]; exact Int.emod_lt_of_pos _ hm
  have hdiv := Int.mul_ediv_add_emod (a * (n : Int) + b) m
  rw [hr] at hdiv
  generalize (a * (n : Int) + b) / m = kk at hk hdiv
  obtain ⟨k, rfl⟩ : ∃ k : Nat, kk = (k : Int) := ⟨kk.toNat, by omega⟩
  rw [Int.toNat_natCast]
  unfold sumP
  -- each part by counting
  have h1 : ∀ x : Nat, x < n → (a * (x : Int) + b) / m = sumF (fun y => one (m * ((y : Int) + 1) ≤ a * x + b)) k := by
    intro x hx
    have hn : a * (x : Int) ≤ a * n := Int.mul_le_mul_of_nonneg_left (by omega) ha
    have hx0 : 0 ≤ a * (x : Int) := Int.mul_nonneg ha (by omega)
    have hv0 : 0 ≤ (a * (x : Int) + b) / m := Int.ediv_nonneg (by omega) (by omega)
    have hvk : (a * (x : Int) + b) / m ≤ k := by
      have : (a * (x : Int) + b) / m < k + 1 := by
        refine Int.ediv_lt_of_lt_mul hm ?_
        rw [Int.add_mul, Int.one_mul]
        have hc := Int.mul_comm (k : Int) m
        omega
      omega
    have e : sumF (fun y => one (m * ((y : Int) + 1) ≤ a * x + b)) k = sumF (fun y => one ((y : Int) + 1 ≤ (a * (x : Int) + b) / m)) k := by
      refine sumF_congr fun y _ => ?_
      have : ((y : Int) + 1 ≤ (a * (x : Int) + b) / m) ↔ m * ((y : Int) + 1) ≤ a * x + b := by
        rw [Int.le_ediv_iff_mul_le hm, Int.mul_comm]
      show one (m * ((y : Int) + 1) ≤ a * x + b) = one ((y : Int) + 1 ≤ (a * (x : Int) + b) / m)
      unfold one
      simp only [this]
    rw [e, count_le _ _ hv0, if_pos hvk]
  rw [sumF_congr h1, sumF_swap, ← sumF_rev (fun y => sumF (fun x => one (m * ((y : Int) + 1) ≤ a * x + b)) n) k]
  refine sumF_congr fun j hj => ?_
  show sumF (fun x => one (m * (((k - 1 - j : Nat) : Int) + 1) ≤ a * x + b)) n = (m * j + r) / a
  have ej : (((k - 1 - j : Nat) : Int) + 1) = k - j := by omega
  rw [ej, ← sumF_rev (fun x => one (m * ((k : Int) - j) ≤ a * x + b)) n]
  have hmj : 0 ≤ m * (j : Int) := Int.mul_nonneg (by omega) (by omega)
  have hv0 : 0 ≤ (m * (j : Int) + r) / a := Int.ediv_nonneg (by omega) (by omega)
  have hvn : (m * (j : Int) + r) / a ≤ n := by
    have : (m * (j : Int) + r) / a < n := by
      refine Int.ediv_lt_of_lt_mul ha' ?_
      have h2 : m * ((j : Int) + 1) ≤ m * k := Int.mul_le_mul_of_nonneg_left (by omega) (by omega)
      rw [Int.mul_add, Int.mul_one] at h2
      have hc := Int.mul_comm (n : Int) a
      omega
    omega
  have e : sumF (fun x => (fun x : Nat => one (m * ((k : Int) - j) ≤ a * x + b)) (n - 1 - x)) n = sumF (fun z => one ((z : Int) + 1 ≤ (m * (j : Int) + r) / a)) n := by
    refine sumF_congr fun z hz => ?_
    show one (m * ((k : Int) - j) ≤ a * ((n - 1 - z : Nat) : Int) + b) = one ((z : Int) + 1 ≤ (m * (j : Int) + r) / a)
    have ez : ((n - 1 - z : Nat) : Int) = n - (z + 1) := by omega
    have : ((z : Int) + 1 ≤ (m * (j : Int) + r) / a) ↔ m * ((k : Int) - j) ≤ a * (n - (z + 1)) + b := by
      rw [Int.le_ediv_iff_mul_le ha', Int.mul_comm, Int.mul_sub, Int.mul_sub]
      omega
    rw [ez]
    unfold one
    simp only [this]
  rw [e, count_le _ _ hv0, if_pos hvn]
theorem sum_flat {a b m : Int} (ha : 0 ≤ a) (ham : a < m) (hb : 0 ≤ b) (n : Nat) (hk : (a * n + b) / m = 0) : sumP a b m n = 0 := by
  have hm : 0 < m := by omega
  unfold sumP
  rw [sumF_congr (g := fun _ => 0) fun x hx => ?_, sumF_zero]
  have hn : a * (x : Int) ≤ a * n := Int.mul_le_mul_of_nonneg_left (by omega) ha
  have hx0 : 0 ≤ a * (x : Int) := Int.mul_nonneg ha (by omega)
  have h2 : a * (n : Int) + b < m := by
    have := Int.emod_lt_of_pos (a * (n : Int) + b) hm
    have e := Int.mul_ediv_add_emod (a * (n : Int) + b) m
    rw [hk, Int.mul_zero] at e
    omega
  exact Int.ediv_eq_zero_of_lt (by omega) (by omega)
theorem tri_sz {b : Nat} {n : Int} (h : Sz b n) (hb : 1 ≤ b) : Sz (b + (b + 1)) (tri n) := by
  unfold tri
  refine Sz.div ?_ (by decide)
  exact h.mul (h.sub (Sz.mono (a := 1) (by decide) hb))
/-! ### sums of squares and of places -/
/-- the sum of the places' squares -/
def pyr (n : Int) : Int := n * (n - 1) * (2 * n - 1) / 6
theorem pyr_six (n : Int) : 6 * pyr n = n * (n - 1) * (2 * n - 1) := by
  unfold pyr
  have h : n * (n - 1) * (2 * n - 1) % 6 = 0 := by
    have e : n = 6 * (n / 6) + n % 6 := (Int.mul_ediv_add_emod n 6).symm
    have h0 := Int.emod_nonneg n (b := 6) (by decide)
    have h1 := Int.emod_lt_of_pos n (b := 6) (by decide)
    generalize n / 6 = q at e
    generalize n % 6 = r at e h0 h1
    subst e
    have hr : r = 0 ∨ r = 1 ∨ r = 2 ∨ r = 3 ∨ r = 4 ∨ r = 5 := by omega
    rcases hr with rfl | rfl | rfl | rfl | rfl | rfl
    · rw [show (6 * q + 0) * (6 * q + 0 - 1) * (2 * (6 * q + 0) - 1) = 6 * (q * (6 * q - 1) * (12 * q - 1)) by grind]; exact Int.mul_emod_right _ _
    · rw [show (6 * q + 1) * (6 * q + 1 - 1) * (2 * (6 * q + 1) - 1) = 6 * ((6 * q + 1) * q * (12 * q + 1)) by grind]; exact Int.mul_emod_right _ _
    · rw [show (6 * q + 2) * (6 * q + 2 - 1) * (2 * (6 * q + 2) - 1) = 6 * ((3 * q + 1) * (6 * q + 1) * (4 * q + 1)) by grind]; exact Int.mul_emod_right _ _
    · rw [show (6 * q + 3) * (6 * q + 3 - 1) * (2 * (6 * q + 3) - 1) = 6 * ((2 * q + 1) * (3 * q + 1) * (12 * q + 5)) by grind]; exact Int.mul_emod_right _ _
    · rw [show (6 * q + 4) * (6 * q + 4 - 1) * (2 * (6 * q + 4) - 1) = 6 * ((3 * q + 2) * (2 * q + 1) * (12 * q + 7)) by grind]; exact Int.mul_emod_right _ _
    · rw [show (6 * q + 5) * (6 * q + 5 - 1) * (2 * (6 * q + 5) - 1) = 6 * ((6 * q + 5) * (3 * q + 2) * (4 * q + 3)) by grind]; exact Int.mul_emod_right _ _
  omega
theorem pyr_succ (n : Int) : pyr (n + 1) = pyr n + n * n := by
  have h1 := pyr_six (n + 1)
  have h2 := pyr_six n
  have e : (n + 1) * (n + 1 - 1) * (2 * (n + 1) - 1) = n * (n - 1) * (2 * n - 1) + 6 * (n * n) := by grind
  omega
theorem sumF_sq : ∀ n : Nat, sumF (fun x => (x : Int) * x) n = pyr n
  | 0 => rfl
  | n + 1 => by
    show sumF (fun x => (x : Int) * x) n + (n : Int) * n = pyr ((n + 1 : Nat) : Int)
    rw [sumF_sq n, Int.natCast_add]
    exact (pyr_succ n).symm
def sumS (a b m : Int) (n : Nat) : Int := sumF (fun x => (a * x + b) / m * ((a * x + b) / m)) n
def sumX (a b m : Int) (n : Nat) : Int := sumF (fun x => (x : Int) * ((a * x + b) / m)) n
def sumRS (a b m : Int) (n : Nat) : Int := sumF (fun x => (a * x + b) % m * ((a * x + b) % m)) n
def sumRX (a b m : Int) (n : Nat) : Int := sumF (fun x => (x : Int) * ((a * x + b) % m)) n
theorem sumRX_eq (a b m : Int) (n : Nat) : sumRX a b m n = a * pyr n + b * tri n - m * sumX a b m n := by
  have h : sumRX a b m n + m * sumX a b m n = a * pyr n + b * tri n := by
    unfold sumRX sumX
    rw [← sumF_mul, ← sumF_add, ← sumF_sq, ← sumF_id, ← sumF_mul, ← sumF_mul, ← sumF_add]
    refine sumF_congr fun x _ => ?_
    have e := Int.mul_ediv_add_emod (a * (x : Int) + b) m
    grind
  omega
theorem sumRS_eq (a b m : Int) (n : Nat) : sumRS a b m n = a * a * pyr n + 2 * a * b * tri n + b * b * n - 2 * m * (a * sumX a b m n + b * sumP a b m n) + m * m * sumS a b m n := by
  have h : sumRS a b m n + 2 * m * (a * sumX a b m n + b * sumP a b m n) = a * a * pyr n + 2 * a * b * tri n + b * b * n + m * m * sumS a b m n := by
    unfold sumRS sumX sumP sumS
    rw [← sumF_mul a, ← sumF_mul b, ← sumF_add, ← sumF_mul (2 * m), ← sumF_add, ← sumF_sq, ← sumF_id, ← sumF_const (b * b), ← sumF_mul (a * a), ← sumF_mul (2 * a * b), ← sumF_mul (m * m), ← sumF_add, ← sumF_add, ← sumF_add]
    refine sumF_congr fun x _ => ?_
    have e := Int.mul_ediv_add_emod (a * (x : Int) + b) m
    generalize (a * (x : Int) + b) / m = p at e
    generalize (a * (x : Int) + b) % m = r at e
    have er : r = a * (x : Int) + b - m * p := by omega
    subst er
    grind
  omega
theorem sumX_laid {a b m : Int} (hm : 0 < m) (n : Nat) : sumX a b m n = a / m * pyr n + b / m * tri n + sumX (a % m) (b % m) m n := by
  unfold sumX
  rw [← sumF_sq, ← sumF_id, ← sumF_mul, ← sumF_mul, ← sumF_add, ← sumF_add]
  refine sumF_congr fun x _ => ?_
  rw [part_laid (x := (x : Int)) hm]
  grind
theorem sumS_laid {a b m : Int} (hm : 0 < m) (n : Nat) : sumS a b m n = a / m * (a / m) * pyr n + 2 * (a / m) * (b / m) * tri n + b / m * (b / m) * n + 2 * (a / m * sumX (a % m) (b % m) m n + b / m * sumP (a % m) (b % m) m n) + sumS (a % m) (b % m) m n := by
  unfold sumX sumS sumP
  rw [← sumF_sq, ← sumF_id, ← sumF_mul (a / m), ← sumF_mul (b / m), ← sumF_add, ← sumF_mul 2, ← sumF_const (b / m * (b / m)), ← sumF_mul (a / m * (a / m)), ← sumF_mul (2 * (a / m) * (b / m)), ← sumF_add, ← sumF_add, ← sumF_add, ← sumF_add]
  refine sumF_congr fun x _ => ?_
  rw [part_laid (x := (x : Int)) hm]
  grind
/-- how a weighted count up to v goes -/
theorem sumF_upto (w : Nat → Int) (v : Nat) : ∀ k : Nat, v ≤ k → sumF (fun y => w y * one ((y : Int) + 1 ≤ (v : Int))) k = sumF w v
  | 0, h => by
    obtain rfl : v = 0 := by omega
    rfl
  | k + 1, h => by
    show sumF (fun y => w y * one ((y : Int) + 1 ≤ (v : Int))) k + w k * one ((k : Int) + 1 ≤ (v : Int)) = sumF w v
    by_cases hk : v = k + 1
    · subst hk
      have e1 : sumF (fun y => w y * one ((y : Int) + 1 ≤ ((k + 1 : Nat) : Int))) k = sumF w k := sumF_congr fun y hy => by
        unfold one
        rw [if_pos (by omega), Int.mul_one]
      rw [e1]
      unfold one
      rw [if_pos (by omega), Int.mul_one]
      rfl
    · rw [sumF_upto w v k (by omega)]
      unfold one
      rw [if_neg (by omega)]
      omega
/-- a sum over the places of a weight, times one of the parts' numbers, turned -/
theorem sum_turnedW {a b m : Int} (ha : 0 ≤ a) (ham : a < m) (hb : 0 ≤ b) (hbm : b < m) (n : Nat) (u v : Nat → Int) (hk : 0 < (a * n + b) / m) :
    sumF (fun x => u x * sumF v ((a * x + b) / m).toNat) n = sumF (fun j => v (((a * n + b) / m).toNat - 1 - j) * sumF (fun z => u (n - 1 - z)) ((m * (j : Int) + (a * n + b) % m) / a).toNat) ((a * n + b) / m).toNat := by
  have hm : 0 < m := by omega
  have ha' : 0 < a := by
    rcases Int.lt_or_eq_of_le ha with h | h
    · exact h
    · subst h
      rw [Int.zero_mul, Int.zero_add, Int.ediv_eq_zero_of_lt hb hbm] at hk
      omega
  generalize hr : (a * (n : Int) + b) % m = r
  have hr0 : 0 ≤ r := by rw [← hr]; exact Int.emod_nonneg _ (by omega)
  have hr1 : r < m := by rw [← hr]; exact Int.emod_lt_of_pos _ hm
  have hdiv := Int.mul_ediv_add_emod (a * (n : Int) + b) m
  rw [hr] at hdiv
  generalize (a * (n : Int) + b) / m = kk at hk hdiv
  obtain ⟨k, rfl⟩ : ∃ k : Nat, kk = (k : Int) := ⟨kk.toNat, by omega⟩
  rw [Int.toNat_natCast]
  have h1 : ∀ x : Nat, x < n → u x * sumF v ((a * (x : Int) + b) / m).toNat = sumF (fun y => u x * (v y * one (m * ((y : Int) + 1) ≤ a * x + b))) k := by
    intro x hx
    have hn : a * (x : Int) ≤ a * n := Int.mul_le_mul_of_nonneg_left (by omega) ha
    have hx0 : 0 ≤ a * (x : Int) := Int.mul_nonneg ha (by omega)
    have hv0 : 0 ≤ (a * (x : Int) + b) / m := Int.ediv_nonneg (by omega) (by omega)
    have hvk : (a * (x : Int) + b) / m ≤ k := by
      have : (a * (x : Int) + b) / m < k + 1 := by
        refine Int.ediv_lt_of_lt_mul hm ?_
        rw [Int.add_mul, Int.one_mul]
        have hc := Int.mul_comm (k : Int) m
        omega
      omega
    have hlt : ∀ y : Nat, ((y : Int) + 1 ≤ (a * (x : Int) + b) / m) ↔ m * ((y : Int) + 1) ≤ a * x + b := fun y => by
      rw [Int.le_ediv_iff_mul_le hm, Int.mul_comm]
    generalize (a * (x : Int) + b) / m = p at hv0 hvk hlt
    obtain ⟨w, rfl⟩ : ∃ w : Nat, p = (w : Int) := ⟨p.toNat, by omega⟩
    rw [Int.toNat_natCast, sumF_mul, ← sumF_upto v w k (by omega)]
    congr 1
    refine sumF_congr fun y _ => ?_
    unfold one
    simp only [hlt y]
  rw [sumF_congr h1, sumF_swap, ← sumF_rev (fun y => sumF (fun x => u x * (v y * one (m * ((y : Int) + 1) ≤ a * x + b))) n) k]
  refine sumF_congr fun j hj => ?_
  show sumF (fun x => u x * (v (k - 1 - j) * one (m * (((k - 1 - j : Nat) : Int) + 1) ≤ a * x + b))) n = v (k - 1 - j) * sumF (fun z => u (n - 1 - z)) ((m * (j : Int) + r) / a).toNat
  have ej : (((k - 1 - j : Nat) : Int) + 1) = k - j := by omega
  rw [ej, ← sumF_rev (fun x => u x * (v (k - 1 - j) * one (m * ((k : Int) - j) ≤ a * x + b))) n]
  have hmj : 0 ≤ m * (j : Int) := Int.mul_nonneg (by omega) (by omega)
  have hv0 : 0 ≤ (m * (j : Int) + r) / a := Int.ediv_nonneg (by omega) (by omega)
  have hvn : (m * (j : Int) + r) / a ≤ n := by
    have : (m * (j : Int) + r) / a < n := by
      refine Int.ediv_lt_of_lt_mul ha' ?_
      have h2 : m * ((j : Int) + 1) ≤ m * k := Int.mul_le_mul_of_nonneg_left (by omega) (by omega)
      rw [Int.mul_add, Int.mul_one] at h2
      have hc := Int.mul_comm (n : Int) a
      omega
    omega
  have hlt : ∀ z : Nat, z < n → ((z : Int) + 1 ≤ (m * (j : Int) + r) / a ↔ m * ((k : Int) - j) ≤ a * ((n - 1 - z : Nat) : Int) + b) := fun z hz => by
    rw [show ((n - 1 - z : Nat) : Int) = n - (z + 1) by omega, Int.le_ediv_iff_mul_le ha', Int.mul_comm, Int.mul_sub, Int.mul_sub]
    omega
  generalize (m * (j : Int) + r) / a = p at hv0 hvn hlt
  obtain ⟨w, rfl⟩ : ∃ w : Nat, p = (w : Int) := ⟨p.toNat, by omega⟩
  rw [Int.toNat_natCast, ← sumF_mul, ← sumF_upto (fun x => v (k - 1 - j) * u (n - 1 - x)) w n (by omega)]
  refine sumF_congr fun z hz => ?_
  show u (n - 1 - z) * (v (k - 1 - j) * one (m * ((k : Int) - j) ≤ a * ((n - 1 - z : Nat) : Int) + b)) = v (k - 1 - j) * u (n - 1 - z) * one ((z : Int) + 1 ≤ (w : Int))
  unfold one
  simp only [hlt z hz]
  rw [← Int.mul_assoc, Int.mul_comm (u _)]
theorem sumF_odd (n : Nat) : sumF (fun y => 2 * (y : Int) + 1) n = n * n := by
  rw [sumF_lin]
  have := tri_two n
  grind
theorem sumF_down (c : Int) (n : Nat) : sumF (fun z => c - (z : Int)) n = c * n - tri n := by
  have := sumF_lin (-1) c n
  rw [sumF_congr (g := fun z => -1 * (z : Int) + c) fun z _ => by omega, this]
  omega
theorem part_nonneg {a b m : Int} (hm : 0 < m) (ha : 0 ≤ a) (hb : 0 ≤ b) (x : Nat) : 0 ≤ (a * (x : Int) + b) / m :=
  Int.ediv_nonneg (by have := Int.mul_nonneg ha (show (0 : Int) ≤ x by omega); omega) (by omega)
theorem sumS_turned {a b m : Int} (ha : 0 ≤ a) (ham : a < m) (hb : 0 ≤ b) (hbm : b < m) (n : Nat) (hk : 0 < (a * n + b) / m) :
    sumS a b m n = (2 * ((a * n + b) / m) - 1) * sumP m ((a * n + b) % m) a ((a * n + b) / m).toNat - 2 * sumX m ((a * n + b) % m) a ((a * n + b) / m).toNat := by
  have ha' : 0 < a := by
    rcases Int.lt_or_eq_of_le ha with h | h
    · exact h
    · subst h
      rw [Int.zero_mul, Int.zero_add, Int.ediv_eq_zero_of_lt hb hbm] at hk
      omega
  have W := sum_turnedW ha ham hb hbm n (fun _ => 1) (fun y => 2 * (y : Int) + 1) hk
  have e1 : sumF (fun x : Nat => (fun _ => (1 : Int)) x * sumF (fun y => 2 * (y : Int) + 1) ((a * (x : Int) + b) / m).toNat) n = sumS a b m n := by
    unfold sumS
    refine sumF_congr fun x _ => ?_
    show 1 * sumF (fun y => 2 * (y : Int) + 1) ((a * (x : Int) + b) / m).toNat = _
    rw [sumF_odd, Int.toNat_of_nonneg (part_nonneg (by omega) ha hb x), Int.one_mul]
  rw [e1] at W
  rw [W]
  have hr0 : 0 ≤ (a * (n : Int) + b) % m := Int.emod_nonneg _ (by omega)
  generalize (a * (n : Int) + b) % m = r at *
  generalize (a * (n : Int) + b) / m = kk at *
  obtain ⟨k, rfl⟩ : ∃ k : Nat, kk = (k : Int) := ⟨kk.toNat, by omega⟩
  rw [Int.toNat_natCast]
  unfold sumP sumX
  rw [← sumF_mul, ← sumF_mul, show ∀ p q : Int, p - q = p + -1 * q by intros; omega, ← sumF_mul (-1), ← sumF_add]
  refine sumF_congr fun j hj => ?_
  show (2 * ((k - 1 - j : Nat) : Int) + 1) * sumF (fun z => 1) ((m * (j : Int) + r) / a).toNat = _
  rw [sumF_const, Int.toNat_of_nonneg (part_nonneg ha' (by omega) hr0 j), show ((k - 1 - j : Nat) : Int) = k - 1 - j by omega]
  grind
theorem sumX_turned {a b m : Int} (ha : 0 ≤ a) (ham : a < m) (hb : 0 ≤ b) (hbm : b < m) (n : Nat) (hk : 0 < (a * n + b) / m) :
    sumX a b m n = n * sumP m ((a * n + b) % m) a ((a * n + b) / m).toNat - (sumS m ((a * n + b) % m) a ((a * n + b) / m).toNat + sumP m ((a * n + b) % m) a ((a * n + b) / m).toNat) / 2 := by
  have ha' : 0 < a := by
    rcases Int.lt_or_eq_of_le ha with h | h
    · exact h
    · subst h
      rw [Int.zero_mul, Int.zero_add, Int.ediv_eq_zero_of_lt hb hbm] at hk
      omega
  have hm : 0 < m := by omega
  have W := sum_turnedW ha ham hb hbm n (fun x => (x : Int)) (fun _ => 1) hk
  have e1 : sumF (fun x : Nat => (fun x : Nat => (x : Int)) x * sumF (fun _ => 1) ((a * (x : Int) + b) / m).toNat) n = sumX a b m n := by
    unfold sumX
    refine sumF_congr fun x _ => ?_
    show (x : Int) * sumF (fun y => 1) ((a * (x : Int) + b) / m).toNat = _
    rw [sumF_const, Int.toNat_of_nonneg (part_nonneg hm ha hb x), Int.one_mul]
  rw [e1] at W
  have hr0 : 0 ≤ (a * (n : Int) + b) % m := Int.emod_nonneg _ (by omega)
  have hr1 : (a * (n : Int) + b) % m < m := Int.emod_lt_of_pos _ hm
  have hdiv := Int.mul_ediv_add_emod (a * (n : Int) + b) m
  generalize (a * (n : Int) + b) % m = r at *
  generalize (a * (n : Int) + b) / m = kk at *
  obtain ⟨k, rfl⟩ : ∃ k : Nat, kk = (k : Int) := ⟨kk.toNat, by omega⟩
  rw [Int.toNat_natCast] at *
  have e2 : 2 * sumX a b m n = 2 * (n * sumP m r a k) - (sumS m r a k + sumP m r a k) := by
    rw [W]
    unfold sumP sumS
    rw [← sumF_mul (n : Int), ← sumF_mul 2, ← sumF_mul 2, ← sumF_add, show ∀ p q : Int, p - q = p + -1 * q by intros; omega, ← sumF_mul (-1), ← sumF_add]
    refine sumF_congr fun j hj => ?_
    have hmj : 0 ≤ m * (j : Int) := Int.mul_nonneg (by omega) (by omega)
    have hv0 : 0 ≤ (m * (j : Int) + r) / a := Int.ediv_nonneg (by omega) (by omega)
    have hvn : (m * (j : Int) + r) / a ≤ n := by
      have : (m * (j : Int) + r) / a < n := by
        refine Int.ediv_lt_of_lt_mul ha' ?_
        have h2 : m * ((j : Int) + 1) ≤ m * k := Int.mul_le_mul_of_nonneg_left (by omega) (by omega)
        rw [Int.mul_add, Int.mul_one] at h2
        have hc := Int.mul_comm (n : Int) a
        omega
      omega
    show 2 * (1 * sumF (fun z => ((n - 1 - z : Nat) : Int)) ((m * (j : Int) + r) / a).toNat) = 2 * (n * ((m * (j : Int) + r) / a)) + -1 * ((m * (j : Int) + r) / a * ((m * (j : Int) + r) / a) + (m * (j : Int) + r) / a)
    generalize (m * (j : Int) + r) / a = p at hv0 hvn
    obtain ⟨w, rfl⟩ : ∃ w : Nat, p = (w : Int) := ⟨p.toNat, by omega⟩
    rw [Int.toNat_natCast, sumF_congr (g := fun z => ((n : Int) - 1) - (z : Int)) fun z hz => by omega, sumF_down]
    have := tri_two w
    grind
  omega
theorem sumS_flat {a b m : Int} (ha : 0 ≤ a) (ham : a < m) (hb : 0 ≤ b) (n : Nat) (hk : (a * n + b) / m = 0) : sumS a b m n = 0 ∧ sumX a b m n = 0 := by
  have hm : 0 < m := by omega
  have hf : ∀ x : Nat, x < n → (a * (x : Int) + b) / m = 0 := by
    intro x hx
    have hn : a * (x : Int) ≤ a * n := Int.mul_le_mul_of_nonneg_left (by omega) ha
    have hx0 : 0 ≤ a * (x : Int) := Int.mul_nonneg ha (by omega)
    have h2 : a * (n : Int) + b < m := by
      have := Int.emod_lt_of_pos (a * (n : Int) + b) hm
      have e := Int.mul_ediv_add_emod (a * (n : Int) + b) m
      rw [hk, Int.mul_zero] at e
      omega
    exact Int.ediv_eq_zero_of_lt (by omega) (by omega)
  unfold sumS sumX
  rw [sumF_congr (g := fun _ => 0) fun x hx => by rw [hf x hx]; rfl, sumF_congr (f := fun x => (x : Int) * _) (g := fun _ => 0) fun x hx => by rw [hf x hx, Int.mul_zero], sumF_zero]
  exact ⟨rfl, rfl⟩
theorem r_appW {p : Addr} {xs : List V} {v : V} {H : Hp} {Q : VK} (hp : H p = some (.lst xs)) (l : xs.length < 10000) (h : ∀ H1, H1 p = some (.lst (xs ++ [v])) → But p H H1 → Q .non H1) : rAppend (.ref p) [v] H Q :=
  ⟨p, xs, v, rfl, rfl, hp, Nat.lt_trans l (by decide), h _ upd_same fun b o n e => by rw [upd_ne n]; exact e⟩
theorem r_rev {K : PySem.W.Frag} {σ : L2.St} {H : Hp} {ts : TA} {R : It → Hp → Prop} (h : ts σ H fun vs H1 => ∃ (a : Addr) (xs : List V), vs = [.ref a] ∧ SqL K H1 a xs ∧ R (Itv K a xs.length) H1) : iRev K ts σ H R := h
theorem loop_rev {K : PySem.W.Frag} {D : Ends} {σ : L2.St} {H : Hp} {t : TS} {a : Addr} {xs : List V} {g : TG} (Pv : Nat → L2.St → Hp → Prop) (h0 : Pv 0 σ H) (hl : ∀ i σ H, i ≤ xs.length → Pv i σ H → SqL K H a xs)
    (hs : ∀ i x σ H, i < xs.length → xs[xs.length - 1 - i]? = some x → Pv i σ H → g x σ H fun σ2 H2 => t { D with nx := Pv (i + 1), ct := Pv (i + 1), bk := D.nx } σ2 H2) (hd : ∀ σ H, Pv xs.length σ H → D.nx σ H) : LoopOk (Itv K a xs.length) g t D σ H := by
  refine ⟨fun i m σ H => i ≤ xs.length ∧ m = xs.length - i ∧ Pv i σ H, ⟨_, Nat.zero_le _, rfl, h0⟩, ?_⟩
  rintro i m σ H ⟨hi, hm, hp⟩
  by_cases h : i < xs.length
  · refine .inr ⟨⟨h, xs, xs[xs.length - 1 - i]'(by omega), hl i σ H hi hp, List.getElem?_eq_getElem _⟩, Pv (i + 1), fun σ' H' z => ⟨xs.length - (i + 1), by omega, by omega, rfl, z⟩, ?_⟩
    rintro x H' ⟨rfl, hx⟩
    exact hs i x σ _ h (hx xs (hl i σ _ hi hp)) hp
  · obtain rfl : i = xs.length := by omega
    exact .inl ⟨Nat.le_refl _, hd σ H hp⟩
theorem r_gunl {K : PySem.W.Frag} {σ : L2.St} {H : Hp} {p : Addr} {n : Nat} {tg : TGs} {xs : List V} {S : L2.St → Hp → Prop} (s : SqL K H p xs) (l : xs.length = n) (h : tg xs σ H S) : gUnl K n tg (.ref p) σ H S := ⟨p, xs, rfl, s, l, h⟩
/-! ### the way there and back of the sums of squares -/
theorem sumF_szW {f : Nat → Int} {b N : Nat} {n : Nat} (h : ∀ x, x < n → Sz b (f x)) (hn : n < 2 ^ N) : Sz (N + b) (sumF f n) := by
  have g : ∀ n : Nat, (∀ x, x < n → Sz b (f x)) → (sumF f n).natAbs ≤ n * 2 ^ b := by
    intro n
    induction n with
    | zero =>
      intro _
      rw [Nat.zero_mul]
      exact Nat.le_refl 0
    | succ n ih =>
      intro h
      have h1 := ih fun x hx => h x (Nat.lt_succ_of_lt hx)
      have h2 : (f n).natAbs < 2 ^ b := h n (Nat.lt_succ_self n)
      show (sumF f n + f n).natAbs ≤ (n + 1) * 2 ^ b
      rw [Nat.add_mul, Nat.one_mul]
      omega
  unfold Sz
  rw [Nat.pow_add]
  exact Nat.lt_of_le_of_lt (g n h) (Nat.mul_lt_mul_of_pos_right hn (Nat.two_pow_pos b))
abbrev Quad := Int × Int × Int × Int
abbrev Trp := Int × Int × Int
def turnT (n k : Int) (s : Trp) : Trp := (s.1, (2 * k - 1) * s.1 - 2 * s.2.2, n * s.1 - (s.2.1 + s.1) / 2)
def layT (n q r : Int) (s : Trp) : Trp := (q * tri n + r * n + s.1, q * q * pyr n + 2 * q * r * tri n + r * r * n + 2 * (q * s.2.2 + r * s.1) + s.2.1, q * pyr n + r * tri n + s.2.2)
def backT (t : Quad) (s : Trp) : Trp := layT t.1 t.2.1 t.2.2.1 (turnT t.1 t.2.2.2 s)
def valT (l : List Quad) : Trp := l.foldr backT (0, 0, 0)
def trp (a b m : Int) (n : Nat) : Trp := (sumP a b m n, sumS a b m n, sumX a b m n)
/-- the steps of a line and a count -/
inductive St : Int → Int → Int → Int → List Quad → Prop where
  | last {a b m n : Int} (hm : 0 < m) (sa : Sz 1000 a) (sb : Sz 1000 b) (sm : Sz 1000 m) (hn : 0 ≤ n) (sn : Sz 1000 n) (hk : (a % m * n + b % m) / m = 0) : St a b m n [(n, a / m, b / m, 0)]
  | step {a b m n : Int} {l : List Quad} (hm : 0 < m) (sa : Sz 1000 a) (sb : Sz 1000 b) (sm : Sz 1000 m) (hn : 0 ≤ n) (sn : Sz 1000 n) (hk : (a % m * n + b % m) / m ≠ 0) (h : St m ((a % m * n + b % m) % m) (a % m) ((a % m * n + b % m) / m) l) : St a b m n ((n, a / m, b / m, (a % m * n + b % m) / m) :: l)
theorem turn_facts {a b m n : Int} (hm : 0 < m) (sm : Sz 1000 m) (hn : 0 ≤ n) (sn : Sz 1000 n) (hk : (a % m * n + b % m) / m ≠ 0) :
    0 < a % m ∧ a % m < m ∧ Sz 1000 (a % m) ∧ Sz 1000 ((a % m * n + b % m) % m) ∧ 0 ≤ (a % m * n + b % m) / m ∧ (a % m * n + b % m) / m ≤ n := by
  have a0 := Int.emod_nonneg a (b := m) (by omega)
  have a1 := Int.emod_lt_of_pos a hm
  have b0 := Int.emod_nonneg b (b := m) (by omega)
  have b1 := Int.emod_lt_of_pos b hm
  have sa2 : Sz 1000 (a % m) := sm.mod hm
  generalize a % m = a2 at *
  generalize b % m = b2 at *
  have h0 : 0 ≤ a2 * n := Int.mul_nonneg a0 hn
  refine ⟨?_, a1, sa2, sm.mod hm, Int.ediv_nonneg (by omega) (by omega), ?_⟩
  · rcases Int.lt_or_eq_of_le a0 with h | h
    · exact h
    · subst h
      rw [Int.zero_mul, Int.zero_add, Int.ediv_eq_zero_of_lt b0 b1] at hk
      exact absurd rfl hk
  · have : (a2 * n + b2) / m < n + 1 := by
      refine Int.ediv_lt_of_lt_mul hm ?_
      have : a2 * n ≤ m * n := Int.mul_le_mul_of_nonneg_right (by omega) hn
      rw [Int.add_mul, Int.one_mul, Int.mul_comm n]
      omega
    omega
theorem St.ex : ∀ (f : Nat) {a b m n : Int}, m.toNat ≤ f → 0 < m → Sz 1000 a → Sz 1000 b → Sz 1000 m → 0 ≤ n → Sz 1000 n → ∃ l, St a b m n l
  | 0, a, b, m, n, hf, hm, _, _, _, _, _ => absurd hm (by omega)
  | f + 1, a, b, m, n, hf, hm, sa, sb, sm, hn, sn => by
    by_cases hk : (a % m * n + b % m) / m = 0
    · exact ⟨_, .last hm sa sb sm hn sn hk⟩
    · obtain ⟨c0, c1, s1, s2, k0, k1⟩ := turn_facts (a := a) (b := b) hm sm hn sn hk
      obtain ⟨l, h⟩ := St.ex f (a := m) (b := (a % m * n + b % m) % m) (m := a % m) (n := (a % m * n + b % m) / m) (by omega) c0 sm s2 s1 k0 (sn.le k0 k1)
      exact ⟨_, .step hm sa sb sm hn sn hk h⟩
theorem back_step {a b m n : Int} (hm : 0 < m) (hn : 0 ≤ n) (hk : (a % m * n + b % m) / m ≠ 0) :
    backT (n, a / m, b / m, (a % m * n + b % m) / m) (trp m ((a % m * n + b % m) % m) (a % m) ((a % m * n + b % m) / m).toNat) = trp a b m n.toNat := by
  have a0 := Int.emod_nonneg a (b := m) (by omega)
  have a1 := Int.emod_lt_of_pos a hm
  have b0 := Int.emod_nonneg b (b := m) (by omega)
  have b1 := Int.emod_lt_of_pos b hm
  have e1 := sum_laid (a := a) (b := b) hm n.toNat
  have e2 := sumS_laid (a := a) (b := b) hm n.toNat
  have e3 := sumX_laid (a := a) (b := b) hm n.toNat
  obtain ⟨k, rfl⟩ : ∃ k : Nat, n = (k : Int) := ⟨n.toNat, by omega⟩
  rw [Int.toNat_natCast] at *
  have h0 : 0 ≤ a % m * (k : Int) := Int.mul_nonneg a0 (by omega)
  have hk1 : 0 < (a % m * (k : Int) + b % m) / m := by
    have := Int.ediv_nonneg (a := a % m * (k : Int) + b % m) (b := m) (by omega) (by omega)
    omega
  have f1 := sum_turned a0 a1 b0 b1 k hk1
  have f2 := sumS_turned a0 a1 b0 b1 k hk1
  have f3 := sumX_turned a0 a1 b0 b1 k hk1
  unfold backT layT turnT trp
  dsimp only
  rw [e1, e2, e3, f1, f2, f3]
theorem back_last {a b m n : Int} (hm : 0 < m) (hn : 0 ≤ n) (hk : (a % m * n + b % m) / m = 0) :
    backT (n, a / m, b / m, 0) (0, 0, 0) = trp a b m n.toNat := by
  have a0 := Int.emod_nonneg a (b := m) (by omega)
  have a1 := Int.emod_lt_of_pos a hm
  have b0 := Int.emod_nonneg b (b := m) (by omega)
  have b1 := Int.emod_lt_of_pos b hm
  have e1 := sum_laid (a := a) (b := b) hm n.toNat
  have e2 := sumS_laid (a := a) (b := b) hm n.toNat
  have e3 := sumX_laid (a := a) (b := b) hm n.toNat
  obtain ⟨k, rfl⟩ : ∃ k : Nat, n = (k : Int) := ⟨n.toNat, by omega⟩
  rw [Int.toNat_natCast] at *
  have f1 := sum_flat (b := b % m) a0 a1 b0 k hk
  obtain ⟨f2, f3⟩ := sumS_flat (b := b % m) a0 a1 b0 k hk
  unfold backT layT turnT trp
  dsimp only
  rw [e1, e2, e3, f1, f2, f3]
  refine Prod.ext ?_ (Prod.ext ?_ ?_)
  · rfl
  · show _ = _
    dsimp only
    omega
  · dsimp only
    omega
theorem St.val {a b m n : Int} {l : List Quad} (h : St a b m n l) : valT l = trp a b m n.toNat := by
  induction h with
  | last hm sa sb sm hn sn hk => exact back_last hm hn hk
  | step hm sa sb sm hn sn hk h ih =>
    show backT _ (valT _) = _
    rw [ih]
    exact back_step hm hn hk
theorem part_sz {a b m x : Int} (hm : 0 < m) (sa : Sz 1000 a) (sb : Sz 1000 b) (sx : Sz 1000 x) : Sz 2001 ((a * x + b) / m) := ((sa.mul sx).add (sb.mono (by decide))).div hm
theorem trp_sz {a b m n : Int} (hm : 0 < m) (sa : Sz 1000 a) (sb : Sz 1000 b) (hn : 0 ≤ n) (sn : Sz 1000 n) : Sz 6000 (sumP a b m n.toNat) ∧ Sz 6000 (sumS a b m n.toNat) ∧ Sz 6000 (sumX a b m n.toNat) := by
  have h2 : n.toNat < 2 ^ 1000 := by
    unfold Sz at sn
    omega
  have sx : ∀ x : Nat, x < n.toNat → Sz 1000 (x : Int) := fun x hx => sn.le (by omega) (by omega)
  refine ⟨(sumF_szW (fun x hx => part_sz hm sa sb (sx x hx)) h2).mono (by decide), (sumF_szW (fun x hx => (part_sz hm sa sb (sx x hx)).mul (part_sz hm sa sb (sx x hx))) h2).mono (by decide), (sumF_szW (fun x hx => (sx x hx).mul (part_sz hm sa sb (sx x hx))) h2).mono (by decide)⟩
/-- what a step holds is of a size -/
def QSz (t : Quad) : Prop := Sz 1000 t.1 ∧ Sz 1000 t.2.1 ∧ Sz 1000 t.2.2.1 ∧ Sz 1000 t.2.2.2
def TSz (s : Trp) : Prop := Sz 6000 s.1 ∧ Sz 6000 s.2.1 ∧ Sz 6000 s.2.2
theorem St.tsz {a b m n : Int} {l : List Quad} (h : St a b m n l) : TSz (valT l) := by
  rw [h.val]
  cases h with
  | last hm sa sb sm hn sn hk => exact trp_sz hm sa sb hn sn
  | step hm sa sb sm hn sn hk h => exact trp_sz hm sa sb hn sn
theorem St.drop {a b m n : Int} {l : List Quad} (h : St a b m n l) : ∀ i : Nat, TSz (valT (l.drop i)) := by
  induction h with
  | last hm sa sb sm hn sn hk =>
    intro i
    match i with
    | 0 => exact (St.last hm sa sb sm hn sn hk).tsz
    | i + 1 =>
      rw [List.drop_succ_cons, List.drop_nil]
      exact ⟨by decide, by decide, by decide⟩
  | step hm sa sb sm hn sn hk h ih =>
    intro i
    match i with
    | 0 => exact (St.step hm sa sb sm hn sn hk h).tsz
    | i + 1 => exact ih i
theorem St.qsz {a b m n : Int} {l : List Quad} (h : St a b m n l) : ∀ t ∈ l, QSz t := by
  induction h with
  | last hm sa sb sm hn sn hk =>
    intro t ht
    rw [List.mem_singleton.mp ht]
    exact ⟨sn, sa.div hm, sb.div hm, by show Sz 1000 0; decide⟩
  | step hm sa sb sm hn sn hk h ih =>
    intro t ht
    rcases List.mem_cons.mp ht with rfl | ht
    · obtain ⟨_, _, _, _, k0, k1⟩ := turn_facts hm sm hn sn hk
      exact ⟨sn, sa.div hm, sb.div hm, sn.le k0 k1⟩
    · exact ih t ht
theorem St.few {a b m n : Int} {l : List Quad} (h : St a b m n l) : ∀ e : Nat, m < a → a * m < 2 ^ e → l.length ≤ e + 1 := by
  induction h with
  | last hm sa sb sm hn sn hk =>
    intro e _ _
    show 1 ≤ e + 1
    omega
  | @step a b m n l hm sa sb sm hn sn hk h ih =>
    intro e hma he
    obtain ⟨c0, c1, _⟩ := turn_facts hm sm hn sn hk
    have hd := Int.mul_ediv_add_emod a m
    have hq : 1 ≤ a / m := Int.le_ediv_of_mul_le hm (by omega)
    have hq2 : m * 1 ≤ m * (a / m) := Int.mul_le_mul_of_nonneg_left hq (by omega)
    have h2 : 2 * (a % m) ≤ a := by omega
    have h3 : 2 * (m * (a % m)) ≤ a * m := by
      have := Int.mul_le_mul_of_nonneg_left h2 (show 0 ≤ m by omega)
      rw [Int.mul_comm a m]
      grind
    match e with
    | 0 =>
      have : 0 < m * (a % m) := Int.mul_pos hm c0
      have he : a * m < 1 := he
      omega
    | e + 1 =>
      have he : a * m < 2 ^ e * 2 := he
      have := ih e c1 (by omega)
      show l.length + 1 ≤ e + 1 + 1
      omega
theorem St.few2 {a b m n : Int} {l : List Quad} (h : St a b m n l) : l.length ≤ 5000 := by
  cases h with
  | last hm sa sb sm hn sn hk =>
    show 1 ≤ 5000
    omega
  | @step a b m n l hm sa sb sm hn sn hk h =>
    obtain ⟨c0, c1, s1, _⟩ := turn_facts hm sm hn sn hk
    have hs : Sz 2000 (m * (a % m)) := sm.mul s1
    have hp : 0 < m * (a % m) := Int.mul_pos hm c0
    have := h.few 2000 c1 (by unfold Sz at hs; omega)
    show l.length + 1 ≤ 5000
    omega
/-- rows of four numbers -/
def Rw (H : Hp) : List V → List Quad → Prop
  | [], [] => True
  | v :: vs, t :: ts => (∃ p : Addr, v = .ref p ∧ H p = some (.tup [.int t.1, .int t.2.1, .int t.2.2.1, .int t.2.2.2])) ∧ Rw H vs ts
  | _, _ => False
theorem Rw.more {H H' : Hp} (h : ∀ (p : Addr) (xs : List V), H p = some (.tup xs) → H' p = some (.tup xs)) : ∀ {vs : List V} {ts : List Quad}, Rw H vs ts → Rw H' vs ts
  | [], [], _ => trivial
  | v :: vs, t :: ts, ⟨⟨p, e, g⟩, r⟩ => ⟨⟨p, e, h p _ g⟩, Rw.more h r⟩
theorem Rw.len {H : Hp} : ∀ {vs : List V} {ts : List Quad}, Rw H vs ts → vs.length = ts.length
  | [], [], _ => rfl
  | v :: vs, t :: ts, ⟨_, r⟩ => congrArg Nat.succ r.len
theorem Rw.app {H : Hp} {p : Addr} {t : Quad} (g : H p = some (.tup [.int t.1, .int t.2.1, .int t.2.2.1, .int t.2.2.2])) : ∀ {vs : List V} {ts : List Quad}, Rw H vs ts → Rw H (vs ++ [.ref p]) (ts ++ [t])
  | [], [], _ => ⟨⟨p, rfl, g⟩, trivial⟩
  | v :: vs, u :: ts, ⟨e, r⟩ => ⟨e, Rw.app g r⟩
theorem Rw.get {H : Hp} : ∀ {vs : List V} {ts : List Quad} (_ : Rw H vs ts) {i : Nat} {v : V}, vs[i]? = some v → ∃ (p : Addr) (t : Quad), v = .ref p ∧ ts[i]? = some t ∧ H p = some (.tup [.int t.1, .int t.2.1, .int t.2.2.1, .int t.2.2.2])
  | [], [], _, i, v, h => nomatch h
  | w :: vs, t :: ts, ⟨⟨p, e, g⟩, r⟩, 0, v, h => ⟨p, t, (Option.some.inj h).symm.trans e, rfl, g⟩
  | w :: vs, t :: ts, ⟨_, r⟩, i + 1, v, h => Rw.get r (i := i) h
theorem same_but {H0 H H1 : Hp} {p : Addr} (s : Same H0 H) (n : H0 p = none) (b : But p H H1) : Same H0 H1 := fun c o e => b c o (by
  rintro rfl
  rw [n] at e
  cases e) (s c o e)
theorem but_tup {H H1 : Hp} {p : Addr} {ys : List V} (hp : H p = some (.lst ys)) (b : But p H H1) : ∀ (q : Addr) (xs : List V), H q = some (.tup xs) → H1 q = some (.tup xs) := fun q xs e => b q _ (ne_of e hp (by intro z; cases z)) e
theorem val_drop {l : List Quad} {i : Nat} {t : Quad} (h : l[i]? = some t) : valT (l.drop i) = backT t (valT (l.drop (i + 1))) := by
  have hi : i < l.length := (List.getElem?_eq_some_iff.mp h).1
  rw [List.drop_eq_getElem_cons hi]
  have e : l[i] = t := (List.getElem?_eq_some_iff.mp h).2
  rw [e]
  rfl
theorem pyr_sz {b : Nat} {n : Int} (h : Sz b n) (hb : 2 ≤ b) : Sz (b + (b + 1) + (b + 3)) (pyr n) := by
  unfold pyr
  refine Sz.div ?_ (by decide)
  refine (h.mul (h.sub (Sz.mono (a := 1) (by decide) (by omega)))).mul ?_
  have h2 : Sz (b + 2) (2 * n) := by
    have := (show Sz 2 (2 : Int) by decide).mul h
    rw [Nat.add_comm] at this
    exact this
  exact h2.sub (Sz.mono (a := 1) (by decide) (by omega))
/-! ### sums joined, seen from behind, times a factor, moved -/
theorem sumF_split (f : Nat → Int) (n : Nat) : ∀ k : Nat, sumF f (n + k) = sumF f n + sumF (fun x => f (n + x)) k
  | 0 => (Int.add_zero _).symm
  | k + 1 => by
    show sumF f (n + k) + f (n + k) = sumF f n + (sumF (fun x => f (n + x)) k + f (n + k))
    rw [sumF_split f n k]
    omega
theorem sumP_split (a b m : Int) (n k : Nat) : sumP a b m (n + k) = sumP a b m n + sumP a (a * n + b) m k := by
  unfold sumP
  rw [sumF_split]
  congr 1
  refine sumF_congr fun x _ => ?_
  show (a * ((n + x : Nat) : Int) + b) / m = (a * x + (a * n + b)) / m
  congr 1
  rw [Int.natCast_add]
  grind
theorem sumR_split (a b m : Int) (n k : Nat) : sumR a b m (n + k) = sumR a b m n + sumR a (a * n + b) m k := by
  unfold sumR
  rw [sumF_split]
  congr 1
  refine sumF_congr fun x _ => ?_
  show (a * ((n + x : Nat) : Int) + b) % m = (a * x + (a * n + b)) % m
  congr 1
  rw [Int.natCast_add]
  grind
theorem rev_at {a b : Int} {n x : Nat} (h : x < n) : (0 - a) * (x : Int) + (a * ((n : Int) - 1) + b) = a * ((n - 1 - x : Nat) : Int) + b := by
  have e : ((n - 1 - x : Nat) : Int) = n - 1 - x := by omega
  rw [e]
  grind
theorem sumP_rev (a b m : Int) (n : Nat) : sumP (0 - a) (a * ((n : Int) - 1) + b) m n = sumP a b m n := by
  unfold sumP
  rw [← sumF_rev (fun x => (a * (x : Int) + b) / m) n]
  refine sumF_congr fun x hx => ?_
  show ((0 - a) * (x : Int) + (a * ((n : Int) - 1) + b)) / m = (a * ((n - 1 - x : Nat) : Int) + b) / m
  rw [rev_at hx]
theorem sumR_rev (a b m : Int) (n : Nat) : sumR (0 - a) (a * ((n : Int) - 1) + b) m n = sumR a b m n := by
  unfold sumR
  rw [← sumF_rev (fun x => (a * (x : Int) + b) % m) n]
  refine sumF_congr fun x hx => ?_
  show ((0 - a) * (x : Int) + (a * ((n : Int) - 1) + b)) % m = (a * ((n - 1 - x : Nat) : Int) + b) % m
  rw [rev_at hx]
theorem sumP_times (a b m : Int) {t : Int} (ht : 0 < t) (n : Nat) : sumP (a * t) (b * t) (m * t) n = sumP a b m n := by
  refine sumF_congr fun x _ => ?_
  have e : a * t * (x : Int) + b * t = (a * x + b) * t := by grind
  rw [e, Int.mul_ediv_mul_of_pos_left _ _ ht]
theorem sumR_times (a b m : Int) {t : Int} (ht : 0 < t) (n : Nat) : sumR (a * t) (b * t) (m * t) n = sumR a b m n * t := by
  rw [sumR_eq, sumR_eq, sumP_times a b m ht]
  grind
theorem sumP_slope (a b m : Int) (hm : 0 < m) (n : Nat) : sumP (a + m) b m n = sumP a b m n + tri n := by
  have h : sumF (fun x => (a * (x : Int) + b) / m + (x : Int)) n = sumP a b m n + tri n := by rw [sumF_add, sumF_id]; rfl
  rw [← h]
  refine sumF_congr fun x _ => ?_
  have e : (a + m) * (x : Int) + b = (a * x + b) + m * x := by grind
  rw [e, Int.add_mul_ediv_left _ _ (by omega : m ≠ 0)]
theorem sumP_up (a b m : Int) (hm : 0 < m) (n : Nat) : sumP a (b + m) m n = sumP a b m n + n := by
  have h : sumF (fun x => (a * (x : Int) + b) / m + 1) n = sumP a b m n + n := by
    rw [sumF_add, sumF_const, Int.one_mul]
    rfl
  rw [← h]
  refine sumF_congr fun x _ => ?_
  have e : a * (x : Int) + (b + m) = (a * x + b) + m * 1 := by grind
  rw [e, Int.add_mul_ediv_left _ _ (by omega : m ≠ 0)]
theorem sumR_slope (a b m : Int) (hm : 0 < m) (n : Nat) : sumR (a + m) b m n = sumR a b m n := by
  rw [sumR_eq, sumR_eq, sumP_slope a b m hm]
  grind
theorem sumR_up (a b m : Int) (hm : 0 < m) (n : Nat) : sumR a (b + m) m n = sumR a b m n := by
  rw [sumR_eq, sumR_eq, sumP_up a b m hm]
  grind
theorem sumP_back (a b m : Int) (n : Nat) : sumP a (a * (0 - (n : Int)) + b) m n = sumP (0 - a) (b - a) m n := by
  rw [← sumP_rev (0 - a) (b - a) m n]
  unfold sumP
  refine sumF_congr fun x _ => ?_
  congr 1
  grind
/-! ### a full turn of a line -/
/-- a value for every place, of a period of m places -/
def Per (m : Int) (F : Int → Int) : Prop := ∀ x, F (x + m) = F x
theorem Per.mul {m : Int} {F : Int → Int} (h : Per m F) (x : Int) : ∀ k : Nat, F (x + k * m) = F x
  | 0 => by
    show F (x + (0 : Nat) * m) = F x
    rw [show x + ((0 : Nat) : Int) * m = x by grind]
  | k + 1 => by
    rw [show x + ((k + 1 : Nat) : Int) * m = (x + k * m) + m by grind, h, Per.mul h x k]
theorem Per.emod {m : Int} {F : Int → Int} (h : Per m F) (hm : 0 < m) (x : Int) : F (x % m) = F x := by
  have e := Int.emod_add_mul_ediv x m
  by_cases hq : 0 ≤ x / m
  · obtain ⟨k, hk⟩ : ∃ k : Nat, x / m = (k : Int) := ⟨(x / m).toNat, by omega⟩
    have := h.mul (x % m) k
    rw [← this]
    congr 1
    rw [← hk]
    grind
  · obtain ⟨k, hk⟩ : ∃ k : Nat, -(x / m) = (k : Int) := ⟨(-(x / m)).toNat, by omega⟩
    have := h.mul x k
    rw [← this]
    congr 1
    rw [← hk]
    grind
/-- the sum over one full turn from any place -/
def turnF (F : Int → Int) (c : Int) (n : Nat) : Int := sumF (fun x => F (c + x)) n
theorem turn_step {n : Nat} {F : Int → Int} (h : Per n F) (c : Int) : turnF F (c + 1) n = turnF F c n := by
  have h1 : sumF (fun x => F (c + (x : Int))) (n + 1) = turnF F c n + F (c + n) := rfl
  have h2 : ∀ (g : Nat → Int) (n : Nat), sumF g (n + 1) = g 0 + sumF (fun x => g (x + 1)) n := by
    intro g n
    induction n with
    | zero =>
      show 0 + g 0 = g 0 + 0
      omega
    | succ n ih =>
      show sumF g (n + 1) + g (n + 1) = g 0 + (sumF (fun x => g (x + 1)) n + g (n + 1))
      rw [ih]
      omega
  rw [h2, h c] at h1
  have h3 : sumF (fun x => F (c + ((x + 1 : Nat) : Int))) n = turnF F (c + 1) n := by
    refine sumF_congr fun x _ => ?_
    congr 1
    grind
  rw [h3, show F (c + ((0 : Nat) : Int)) = F c by congr 1; grind] at h1
  omega
theorem turn_any {n : Nat} {F : Int → Int} (h : Per n F) (c : Int) : turnF F c n = turnF F 0 n := by
  have up : ∀ (k : Nat) (c : Int), turnF F (c + k) n = turnF F c n := by
    intro k
    induction k with
    | zero =>
      intro c
      rw [show c + ((0 : Nat) : Int) = c by grind]
    | succ k ih =>
      intro c
      rw [show c + ((k + 1 : Nat) : Int) = (c + k) + 1 by grind, turn_step h, ih]
  by_cases hc : 0 ≤ c
  · obtain ⟨k, rfl⟩ : ∃ k : Nat, c = (k : Int) := ⟨c.toNat, by omega⟩
    have := up k 0
    rw [show (0 : Int) + k = k by omega] at this
    exact this
  · obtain ⟨k, hk⟩ : ∃ k : Nat, 0 = c + (k : Int) := ⟨(-c).toNat, by omega⟩
    rw [← up k c, ← hk]
/-- from behind -/
theorem turn_rev {n : Nat} {F : Int → Int} (h : Per n F) (c : Int) : sumF (fun x => F (c - x)) n = turnF F 0 n := by
  rw [← sumF_rev (fun x => F (c - (x : Int))) n, ← turn_any h (c - n + 1)]
  refine sumF_congr fun x hx => ?_
  show F (c - ((n - 1 - x : Nat) : Int)) = F (c - n + 1 + x)
  congr 1
  omega
theorem bez_nat : ∀ (k i j : Nat), i ≤ k → ∃ u v : Int, ((Nat.gcd i j : Nat) : Int) = i * u + j * v
  | _, 0, j, _ => ⟨0, 1, by rw [Nat.gcd_zero_left]; grind⟩
  | 0, i + 1, _, h => by omega
  | k + 1, i + 1, j, h => by
    have hl : j % (i + 1) ≤ k := by
      have := Nat.mod_lt j (show 0 < i + 1 by omega)
      omega
    obtain ⟨u, v, e⟩ := bez_nat k (j % (i + 1)) (i + 1) hl
    rw [Nat.gcd_rec, e]
    have hd := Nat.mod_add_div j (i + 1)
    refine ⟨v - ((j / (i + 1) : Nat) : Int) * u, u, ?_⟩
    have hd' : (j : Int) = ((j % (i + 1) : Nat) : Int) + ((i + 1 : Nat) : Int) * ((j / (i + 1) : Nat) : Int) := by
      rw [← Int.natCast_mul, ← Int.natCast_add, hd]
    rw [hd']
    grind
theorem bezout (a m : Int) : ∃ u v : Int, ((Int.gcd a m : Nat) : Int) = a * u + m * v := by
  obtain ⟨u, v, e⟩ := bez_nat a.natAbs a.natAbs m.natAbs (Nat.le_refl _)
  have e : ((Int.gcd a m : Nat) : Int) = (a.natAbs : Int) * u + (m.natAbs : Int) * v := e
  rcases Int.natAbs_eq a with ha | ha <;> rcases Int.natAbs_eq m with hm | hm
  · exact ⟨u, v, by rw [e, ← ha, ← hm]⟩
  · exact ⟨u, -v, by rw [e, ← ha]; grind⟩
  · exact ⟨-u, v, by rw [e, ← hm]; grind⟩
  · exact ⟨-u, -v, by rw [e]; grind⟩
/-- the rests of a full turn, from any place -/
theorem rests_turn (a b : Int) {m : Nat} (hm : 0 < m) (low : Int) : 2 * sumF (fun x => (a * (low + x) + b) % (m : Int)) m = m * (2 * (b % (Int.gcd a m : Nat)) + m - (Int.gcd a m : Nat)) := by
  generalize hg : ((Int.gcd a m : Nat) : Int) = g
  have hm' : (0 : Int) < m := by omega
  have g0 : 0 < g := by
    have : 0 < Int.gcd a m := Int.gcd_pos_of_ne_zero_right a (by omega)
    omega
  obtain ⟨u, v, ebz⟩ := bezout a m
  rw [hg] at ebz
  have da : g ∣ a := by rw [← hg]; exact Int.gcd_dvd_left ..
  have dm : g ∣ (m : Int) := by rw [← hg]; exact Int.gcd_dvd_right ..
  obtain ⟨a', ea⟩ := da
  obtain ⟨m', em⟩ := dm
  have eb := Int.emod_add_mul_ediv b g
  have s0 := Int.emod_nonneg b (b := g) (by omega)
  have s1 := Int.emod_lt_of_pos b g0
  generalize b % g = s at *
  generalize b / g = t at *
  have m0 : 0 < m' := by
    rcases Int.lt_or_le 0 m' with h | h
    · exact h
    · have := Int.mul_le_mul_of_nonneg_left h (by omega : 0 ≤ g)
      omega
  let F : Int → Int := fun x => (a * x + b) % (m : Int)
  have hF : Per m F := by
    intro x
    show (a * (x + m) + b) % (m : Int) = (a * x + b) % (m : Int)
    rw [show a * (x + m) + b = (a * x + b) + m * a by grind, Int.add_mul_emod_self_left]
  -- the place that goes with a place
  let c : Int := u * (-1 - 2 * t)
  have pair : ∀ x : Int, F x + F (c - x) = 2 * s + m - g := by
    intro x
    have r0 := Int.emod_nonneg (a * x + b) (b := (m : Int)) (by omega)
    have r1 := Int.emod_lt_of_pos (a * x + b) hm'
    have er := Int.emod_add_mul_ediv (a * x + b) (m : Int)
    -- a * x + b is s more than a multiple of g, and so is the rest
    have es : (a * x + b) % (m : Int) = s + g * (a' * x + t - m' * ((a * x + b) / m)) := by grind
    generalize (a' * x + t - m' * ((a * x + b) / m)) = k at es
    have k0 : 0 ≤ k := by
      rcases Int.lt_or_le k 0 with h | h
      · have := Int.mul_le_mul_of_nonneg_left (show k ≤ -1 by omega) (by omega : 0 ≤ g)
        omega
      · exact h
    have k1 : k < m' := by
      rcases Int.lt_or_le k m' with h | h
      · exact h
      · have := Int.mul_le_mul_of_nonneg_left h (by omega : 0 ≤ g)
        omega
    have hk : g * (m' - 1 - k) = m - g - g * k := by grind
    have hk0 : 0 ≤ g * (m' - 1 - k) := Int.mul_nonneg (by omega) (by omega)
    have hk1 : 0 ≤ g * k := Int.mul_nonneg (by omega) k0
    have e2 : F (c - x) = s + (m - g - g * k) := by
      show (a * (u * (-1 - 2 * t) - x) + b) % (m : Int) = _
      have : a * (u * (-1 - 2 * t) - x) + b = (s + (m - g - g * k)) + m * (-((a * x + b) / m) - 1 - v * (-1 - 2 * t)) := by grind
      rw [this, Int.add_mul_emod_self_left, Int.emod_eq_of_lt (by omega) (by omega)]
    show (a * x + b) % (m : Int) + F (c - x) = _
    rw [e2, es]
    omega
  have h1 : sumF (fun x => (a * (low + x) + b) % (m : Int)) m = turnF F 0 m := turn_any hF low
  have h2 : sumF (fun x => F ((x : Int)) + F (c - x)) m = (2 * s + m - g) * m := by
    rw [sumF_congr (g := fun _ => 2 * s + m - g) fun x _ => pair x, sumF_const]
  rw [sumF_add (fun x => F ((x : Int))) (fun x => F (c - (x : Int))), turn_rev hF] at h2
  have h3 : sumF (fun x => F ((x : Int))) m = turnF F 0 m := by
    refine sumF_congr fun x _ => ?_
    show F (x : Int) = F (0 + x)
    rw [Int.zero_add]
  rw [h3] at h2
  rw [h1]
  grind
/-- the parts of a full turn -/
theorem parts_turn (a b : Int) {m : Nat} (hm : 0 < m) : 2 * sumP a b m m = (a - 1) * (m - 1) + (Int.gcd a m : Nat) - 1 + 2 * (b - b % (Int.gcd a m : Nat)) := by
  have h1 := rests_turn a b hm 0
  have h2 : sumF (fun x => (a * (0 + (x : Int)) + b) % (m : Int)) m = sumR a b m m := by
    refine sumF_congr fun x _ => ?_
    show (a * (0 + (x : Int)) + b) % (m : Int) = (a * x + b) % (m : Int)
    rw [Int.zero_add]
  rw [h2] at h1
  have h3 := sum_both a b m m
  have h4 := tri_two (m : Int)
  generalize ((Int.gcd a m : Nat) : Int) = g at *
  generalize b % g = s at *
  have h5 : (m : Int) * (2 * sumP a b m m) = m * ((a - 1) * (m - 1) + g - 1 + 2 * (b - s)) := by grind
  exact Int.eq_of_mul_eq_mul_left (by omega) h5
/-! ### the pile that the scripts' cells are drawn from -/
/-- the pile at d over the script at c -/
def Pl (K : PySem.W.Frag) (H : Hp) (d c : Addr) (ns : List Int) : Prop := ∃ (i r s n : Int), H d = some (.lst [.ref c, .int i, .int r, .int s, .int n]) ∧ SqL K H c (ns.map V.int) ∧ 0 ≤ i ∧ 0 ≤ s ∧ s < 2147483629
/-- all but d is as it was -/
def Kd (d : Addr) (H H' : Hp) : Prop := ∀ b o, H b = some o → b ≠ d → H' b = some o
theorem Kd.refl {d : Addr} (H : Hp) : Kd d H H := fun _ _ e _ => e
theorem Kd.trans {d : Addr} {H H1 H2 : Hp} (h : Kd d H H1) (k : Kd d H1 H2) : Kd d H H2 := fun b o e n => k b o (h b o e n) n
theorem Kd.of {d : Addr} {H H1 : Hp} (h : Same H H1) : Kd d H H1 := fun b o e _ => h b o e
theorem Kd.but {d : Addr} {H H1 : Hp} (h : But d H H1) : Kd d H H1 := fun b o e n => h b o n e
theorem seqL_kd {K : PySem.W.Frag} {H H' : Hp} {c d : Addr} {ns : List Int} {ys : List V} {e : Addr} (k : Kd d H H') (hd : H d = some (.lst (.ref e :: ys))) (h : SqL K H c (ns.map V.int)) : SqL K H' c (ns.map V.int) := by
  have ne : ∀ {x : HO}, H c = some x → x ≠ .lst (.ref e :: ys) → c ≠ d := by
    rintro x hx hne rfl
    rw [hd] at hx
    exact hne (Option.some.inj hx).symm
  rcases h with (h | ⟨o, h⟩) | h
  · refine .inl (.inl (k _ _ h (ne h ?_)))
    intro z
    have z2 := HO.lst.inj z
    match ns, z2 with
    | [], z2 => cases z2
    | x :: r, z2 => exact V.noConfusion (List.cons.inj z2).1
  · exact .inl (.inr ⟨o, k _ _ h (ne h (by intro z; cases z))⟩)
  · exact .inr h
theorem Pl.same {K : PySem.W.Frag} {H H' : Hp} {d c : Addr} {ns : List Int} (P : Pl K H d c ns) (s : Same H H') : Pl K H' d c ns := by
  obtain ⟨i, r, t, n, h1, h2, h3⟩ := P
  exact ⟨i, r, t, n, s _ _ h1, Same.seq s h2, h3⟩
theorem Pl.ne {K : PySem.W.Frag} {H : Hp} {d c t : Addr} {xs : List V} {ns : List Int} (P : Pl K H d c ns) (h : H t = some (.tup xs)) : t ≠ d := by
  obtain ⟨i, r, s, n, h1, _⟩ := P
  exact ne_of h h1 (by intro z; cases z)
theorem Kd.tup {K : PySem.W.Frag} {H H' : Hp} {d c t : Addr} {xs : List V} {ns : List Int} (k : Kd d H H') (P : Pl K H d c ns) (h : H t = some (.tup xs)) : H' t = some (.tup xs) := k t _ h (P.ne h)
theorem Pl.neNew {K : PySem.W.Frag} {H : Hp} {d c p : Addr} {ns : List Int} (P : Pl K H d c ns) (h : H p = none) : p ≠ d := by
  obtain ⟨i, r, s, n, h1, _⟩ := P
  exact (ne_of_none h1 h).symm
theorem seqL_new {K : PySem.W.Frag} {H : Hp} {c p : Addr} {xs : List V} (h : SqL K H c xs) (n : H p = none) : (∀ G, SqL K G c xs) ∨ c ≠ p := by
  rcases h with (h | ⟨o, h⟩) | h
  · exact .inr (ne_of_none h n)
  · exact .inr (ne_of_none h n)
  · exact .inl fun _ => .inr h
theorem Pl.but {K : PySem.W.Frag} {H0 H H' : Hp} {d c p : Addr} {ns : List Int} (P0 : Pl K H0 d c ns) (n : H0 p = none) (P : Pl K H d c ns) (b : But p H H') : Pl K H' d c ns := by
  obtain ⟨_, _, _, _, g1, g2, _⟩ := P0
  obtain ⟨i, r, t, k, h1, h2, h3⟩ := P
  refine ⟨i, r, t, k, b _ _ (ne_of_none g1 n) h1, ?_, h3⟩
  rcases seqL_new g2 n with h | h
  · exact h _
  · rcases h2 with (h2 | ⟨o, h2⟩) | h2
    · exact .inl (.inl (b _ _ h h2))
    · exact .inl (.inr ⟨o, b _ _ h h2⟩)
    · exact .inr h2
theorem kd_but {d p : Addr} {H H0 H1 H2 : Hp} (k : Kd d H H0) (n : H0 p = none) (k2 : Kd d H0 H1) (b : But p H1 H2) : Kd d H H2 := fun c o e nd => by
  have e0 := k c o e nd
  exact b c o (ne_of_none e0 n) (k2 c o e0 nd)
theorem sz60p {x : Int} (h0 : -(1000000 ^ 10) < x) (h1 : x < 1000000 ^ 10) : Sz 200 x := Sz.of (c := 1000000 ^ 10) h0 h1 (by decide)
/-! ### rests beneath a bound -/
def cntB (a b m bound : Int) (n : Nat) : Int := sumF (fun x => one ((a * x + b) % m < bound)) n
theorem beneath_at {h m w : Int} (hm : 0 < m) (w0 : 0 ≤ w) (w1 : w ≤ m) : h / m - (h - w) / m = one (h % m < w) := by
  have e := Int.mul_ediv_add_emod h m
  have r0 := Int.emod_nonneg h (b := m) (by omega)
  have r1 := Int.emod_lt_of_pos h hm
  generalize h / m = q at *
  generalize h % m = r at *
  unfold one
  have e2 : h - w = (r - w) + m * q := by omega
  rw [e2, Int.add_mul_ediv_left _ _ (by omega : m ≠ 0)]
  by_cases c : r < w
  · rw [if_pos c]
    have : (r - w) / m = -1 := by
      have e3 : r - w = (r - w + m) + m * (-1) := by omega
      rw [e3, Int.add_mul_ediv_left _ _ (by omega : m ≠ 0), Int.ediv_eq_zero_of_lt (by omega) (by omega)]
      rfl
    omega
  · rw [if_neg c, Int.ediv_eq_zero_of_lt (by omega) (by omega)]
    omega
theorem sum_beneath (a b m bound : Int) (hm : 0 < m) (n : Nat) (w : Int) (hw : w = if (if m < bound then m else bound) > 0 then (if m < bound then m else bound) else 0) : sumP a b m n - sumP a (b - w) m n = cntB a b m bound n := by
  have w0 : 0 ≤ w := by
    rw [hw]
    repeat' split
    all_goals omega
  have w1 : w ≤ m := by
    rw [hw]
    repeat' split
    all_goals omega
  have h : sumP a b m n = sumP a (b - w) m n + cntB a b m bound n := by
    unfold sumP cntB
    rw [← sumF_add]
    refine sumF_congr fun x _ => ?_
    have e := beneath_at (h := a * x + b) hm w0 w1
    have e2 : a * (x : Int) + (b - w) = a * x + b - w := by omega
    have r0 := Int.emod_nonneg (a * (x : Int) + b) (b := m) (by omega)
    have r1 := Int.emod_lt_of_pos (a * (x : Int) + b) hm
    have e3 : one ((a * (x : Int) + b) % m < w) = one ((a * (x : Int) + b) % m < bound) := by
      unfold one
      have : ((a * (x : Int) + b) % m < w) ↔ ((a * (x : Int) + b) % m < bound) := by
        rw [hw]
        repeat' split
        all_goals omega
      simp only [this]
    rw [e2]
    omega
  omega
theorem cntB_range (a b m bound : Int) (n : Nat) : 0 ≤ cntB a b m bound n ∧ cntB a b m bound n ≤ n := by
  unfold cntB
  induction n with
  | zero => exact ⟨Int.le_refl 0, Int.le_refl 0⟩
  | succ n ih =>
    show 0 ≤ sumF _ n + one _ ∧ sumF _ n + one _ ≤ ((n + 1 : Nat) : Int)
    unfold one at *
    split <;> omega
/-- the rests in a row, and those beneath -/
def restsL (a b m : Int) (n : Nat) : List Int := (List.range n).map fun (x : Nat) => (a * (x : Int) + b) % m
theorem restsL_succ (a b m : Int) (n : Nat) : restsL a b m (n + 1) = restsL a b m n ++ [(a * (n : Int) + b) % m] := by
  unfold restsL
  rw [List.range_succ, List.map_append]
  rfl
theorem restsL_len (a b m : Int) (n : Nat) : (restsL a b m n).length = n := by
  unfold restsL
  rw [List.length_map, List.length_range]
theorem restsL_cnt (a b m bound : Int) : ∀ n : Nat, (((restsL a b m n).filter fun r => decide (r < bound)).length : Int) = cntB a b m bound n
  | 0 => rfl
  | n + 1 => by
    rw [restsL_succ, List.filter_append, List.length_append, Int.natCast_add, restsL_cnt a b m bound n]
    show _ = cntB a b m bound n + one _
    congr 1
    unfold one
    by_cases h : (a * (n : Int) + b) % m < bound
    · rw [if_pos h, List.filter_cons_of_pos (by simpa using h)]
      rfl
    · rw [if_neg h, List.filter_cons_of_neg (by simpa using h)]
      rfl
/-! ### the first place whose rest is within bounds -/
def Inb (a b m low high x : Int) : Prop := low ≤ (a * x + b) % m ∧ (a * x + b) % m ≤ high
instance {a b m low high x : Int} : Decidable (Inb a b m low high x) := inferInstanceAs (Decidable (_ ∧ _))
/-- the first place from 0 on, or none -/
def Fst (a b m low high : Int) : Option Int → Prop
  | none => ∀ x : Int, 0 ≤ x → ¬ Inb a b m low high x
  | some p => 0 ≤ p ∧ Inb a b m low high p ∧ ∀ x : Int, 0 ≤ x → x < p → ¬ Inb a b m low high x
theorem Fst.uniq {a b m low high : Int} {p q : Int} (h : Fst a b m low high (some p)) (k0 : 0 ≤ q) (k : Inb a b m low high q) (kf : ∀ x : Int, 0 ≤ x → x < q → ¬ Inb a b m low high x) : p = q := by
  obtain ⟨h0, h1, h2⟩ := h
  rcases Int.lt_trichotomy p q with l | e | l
  · exact absurd h1 (kf p h0 l)
  · exact e
  · exact absurd k (h2 q k0 l)
theorem inb_per {a b m low high x : Int} : Inb a b m low high (x - m) ↔ Inb a b m low high x := by
  unfold Inb
  have : (a * (x - m) + b) % m = (a * x + b) % m := by
    have e : a * x + b = (a * (x - m) + b) + m * a := by grind
    rw [e, Int.add_mul_emod_self_left]
  rw [this]
theorem Fst.lt {a b m low high p : Int} (hm : 0 < m) (h : Fst a b m low high (some p)) : p < m := by
  obtain ⟨h0, h1, h2⟩ := h
  by_cases c : p < m
  · exact c
  · exact absurd (inb_per.mpr h1) (h2 (p - m) (by omega) (by omega))
/-- rounded up -/
def ceilD (x y : Int) : Int := -((-x) / y)
theorem ceilD_le {x y : Int} (hy : 0 < y) : x ≤ ceilD x y * y ∧ ceilD x y * y < x + y := by
  unfold ceilD
  have e := Int.mul_ediv_add_emod (-x) y
  have r0 := Int.emod_nonneg (-x) (b := y) (by omega)
  have r1 := Int.emod_lt_of_pos (-x) hy
  rw [Int.neg_mul, Int.mul_comm (-x / y) y]
  omega
theorem ceilD_iff {x y z : Int} (hy : 0 < y) : ceilD x y ≤ z ↔ x ≤ z * y := by
  obtain ⟨h1, h2⟩ := ceilD_le (x := x) hy
  constructor
  · intro h
    have := Int.mul_le_mul_of_nonneg_right h (Int.le_of_lt hy)
    omega
  · intro h
    by_cases c : ceilD x y ≤ z
    · exact c
    · have := Int.mul_le_mul_of_nonneg_right (show z + 1 ≤ ceilD x y by omega) (Int.le_of_lt hy)
      rw [Int.add_mul, Int.one_mul] at this
      omega
/-- the first multiple within: where one of a's own lies there -/
theorem fst_here {a m low high : Int} (ha : 0 < a) (h1 : 1 ≤ low) (hm : high < m) (hc : ceilD low a * a ≤ high) : Fst a 0 m low high (some (ceilD low a)) := by
  obtain ⟨c1, c2⟩ := ceilD_le (x := low) ha
  have c0 : 0 ≤ ceilD low a := by
    by_cases c : 0 ≤ ceilD low a
    · exact c
    · have := Int.mul_le_mul_of_nonneg_right (show ceilD low a ≤ 0 by omega) (Int.le_of_lt ha)
      omega
  refine ⟨c0, ?_, ?_⟩
  · unfold Inb
    rw [Int.add_zero, Int.mul_comm, Int.emod_eq_of_lt (by omega) (by omega)]
    exact ⟨c1, hc⟩
  · rintro x x0 xl ⟨i1, i2⟩
    have hx : ¬ low ≤ x * a := fun h => by
      have := (ceilD_iff ha).mpr h
      omega
    have hx0 : 0 ≤ x * a := Int.mul_nonneg x0 (by omega)
    rw [Int.add_zero, Int.mul_comm, Int.emod_eq_of_lt hx0 (by omega)] at i1
    exact hx i1
/-- no multiple within: then both bounds lie between two of them -/
theorem no_mult {a low high : Int} (ha : 0 < a) (h2 : low ≤ high) (hc : high < ceilD low a * a) : 1 ≤ low % a ∧ low % a ≤ high % a ∧ low / a = high / a := by
  obtain ⟨c1, c2⟩ := ceilD_le (x := low) ha
  have e := Int.mul_ediv_add_emod low a
  have r0 := Int.emod_nonneg low (b := a) (by omega)
  have r1 := Int.emod_lt_of_pos low ha
  have hl : low / a < ceilD low a := by
    by_cases c : low / a < ceilD low a
    · exact c
    · have := Int.mul_le_mul_of_nonneg_right (show ceilD low a ≤ low / a by omega) (Int.le_of_lt ha)
      rw [Int.mul_comm (low / a) a] at this
      omega
  have hl2 : ceilD low a ≤ low / a + 1 := (ceilD_iff ha).mpr (by
    rw [Int.add_mul, Int.one_mul, Int.mul_comm (low / a) a]
    omega)
  have hcd : ceilD low a = low / a + 1 := by omega
  have eq : low / a = high / a := by
    have h3 : high / a < low / a + 1 := Int.ediv_lt_of_lt_mul ha (by rw [← hcd]; exact hc)
    have h4 : low / a ≤ high / a := Int.ediv_le_ediv ha h2
    omega
  have e2 := Int.mul_ediv_add_emod high a
  rw [← eq] at e2
  refine ⟨?_, by omega, eq⟩
  rw [hcd, Int.add_mul, Int.one_mul, Int.mul_comm (low / a) a] at hc
  rw [hcd, Int.add_mul, Int.one_mul, Int.mul_comm (low / a) a] at c2
  omega
theorem neg_emod {x a : Int} (ha : 0 < a) (h : 1 ≤ x % a) : (-x) % a = a - x % a := by
  have e := Int.mul_ediv_add_emod x a
  have r1 := Int.emod_lt_of_pos x ha
  have : -x = (a - x % a) + a * (-(x / a) - 1) := by grind
  rw [this, Int.add_mul_emod_self_left, Int.emod_eq_of_lt (by omega) (by omega)]
/-- what is asked of the line goes over to the lesser one -/
theorem step_iff {a m low high x : Int} (ha : 0 < a) (ham : a < m) (h1 : 1 ≤ low) (h2 : low ≤ high) (hm : high < m) (hc : high < ceilD low a * a) (hx : 0 ≤ x) (i : Inb a 0 m low high x) :
    Inb (m % a) 0 a ((-high) % a) ((-low) % a) (a * x / m) ∧ x = ceilD (m * (a * x / m) + low) a := by
  obtain ⟨n1, n2, n3⟩ := no_mult ha h2 hc
  have el := Int.mul_ediv_add_emod low a
  have eh := Int.mul_ediv_add_emod high a
  have r1 := Int.emod_lt_of_pos high ha
  obtain ⟨i1, i2⟩ := i
  rw [Int.add_zero] at i1 i2
  have e := Int.mul_ediv_add_emod (a * x) m
  generalize a * x / m = y at *
  generalize (a * x) % m = t at *
  rw [neg_emod ha n1, neg_emod ha (by omega)]
  -- t lies between the same two multiples
  have et := Int.mul_ediv_add_emod t a
  have t0 : t / a = low / a := by
    have h3 : low / a ≤ t / a := Int.ediv_le_ediv ha i1
    have h4 : t / a ≤ high / a := Int.ediv_le_ediv ha i2
    omega
  rw [t0] at et
  have tr : low % a ≤ t % a ∧ t % a ≤ high % a := by
    rw [← n3] at eh
    omega
  have tr0 : 1 ≤ t % a := by omega
  have tr1 := Int.emod_lt_of_pos t ha
  have hmy : (m % a * y + 0) % a = a - t % a := by
    have e1 : m % a * y + 0 = m * y + a * (-(m / a) * y) := by
      have := Int.mul_ediv_add_emod m a
      have h5 : m % a = m - a * (m / a) := by omega
      rw [h5]
      grind
    have e2 : m * y = -t + a * x := by omega
    rw [e1, Int.add_mul_emod_self_left, e2, Int.add_mul_emod_self_left, neg_emod ha tr0]
  refine ⟨⟨?_, ?_⟩, ?_⟩
  · rw [hmy]
    omega
  · rw [hmy]
    omega
  · have c1 : ceilD (m * y + low) a ≤ x := (ceilD_iff ha).mpr (by rw [Int.mul_comm x a]; omega)
    have c2 : ¬ ceilD (m * y + low) a ≤ x - 1 := fun h => by
      have := (ceilD_iff ha).mp h
      rw [Int.sub_mul, Int.one_mul, Int.mul_comm x a] at this
      omega
    omega
theorem step_back {a m low high y : Int} (ha : 0 < a) (ham : a < m) (h1 : 1 ≤ low) (h2 : low ≤ high) (hm : high < m) (hc : high < ceilD low a * a) (hy : 0 ≤ y) (i : Inb (m % a) 0 a ((-high) % a) ((-low) % a) y) :
    0 ≤ ceilD (m * y + low) a ∧ Inb a 0 m low high (ceilD (m * y + low) a) ∧ a * ceilD (m * y + low) a / m = y := by
  obtain ⟨n1, n2, n3⟩ := no_mult ha h2 hc
  have el := Int.mul_ediv_add_emod low a
  have eh := Int.mul_ediv_add_emod high a
  rw [← n3] at eh
  have r1 := Int.emod_lt_of_pos high ha
  have l1 := Int.emod_lt_of_pos low ha
  obtain ⟨i1, i2⟩ := i
  rw [neg_emod ha n1] at i2
  rw [neg_emod ha (by omega)] at i1
  have hmy : (m % a * y + 0) % a = (m * y) % a := by
    have e1 : m % a * y + 0 = m * y + a * (-(m / a) * y) := by
      have := Int.mul_ediv_add_emod m a
      have h5 : m % a = m - a * (m / a) := by omega
      rw [h5]
      grind
    rw [e1, Int.add_mul_emod_self_left]
  rw [hmy] at i1 i2
  have em := Int.mul_ediv_add_emod (m * y) a
  generalize hs : (m * y) % a = s at *
  generalize (m * y) / a = k at *
  -- the multiple of a that is meant
  have cv : ceilD (m * y + low) a = k + low / a + 1 := by
    have c1 : ceilD (m * y + low) a ≤ k + low / a + 1 := (ceilD_iff ha).mpr (by
      rw [Int.add_mul, Int.add_mul, Int.one_mul, Int.mul_comm k a, Int.mul_comm (low / a) a]
      omega)
    have c2 : ¬ ceilD (m * y + low) a ≤ k + low / a := fun h => by
      have := (ceilD_iff ha).mp h
      rw [Int.add_mul, Int.mul_comm k a, Int.mul_comm (low / a) a] at this
      omega
    omega
  have hmy0 : 0 ≤ m * y := Int.mul_nonneg (by omega) hy
  have ex : a * ceilD (m * y + low) a = (a - s + a * (low / a)) + m * y := by
    rw [cv, Int.mul_add, Int.mul_add, Int.mul_one]
    omega
  have t1 : low ≤ a - s + a * (low / a) ∧ a - s + a * (low / a) ≤ high := by omega
  refine ⟨?_, ?_, ?_⟩
  · rw [cv]
    have h3 : 0 ≤ low / a := Int.ediv_nonneg (by omega) (by omega)
    have h4 : 0 ≤ k := by
      by_cases c : 0 ≤ k
      · exact c
      · have := Int.mul_le_mul_of_nonneg_left (show k ≤ -1 by omega) (Int.le_of_lt ha)
        have s1 : s < a := by rw [← hs]; exact Int.emod_lt_of_pos _ ha
        omega
    omega
  · unfold Inb
    rw [Int.add_zero, ex, Int.add_mul_emod_self_left, Int.emod_eq_of_lt (by omega) (by omega)]
    exact t1
  · rw [ex, Int.add_mul_ediv_left _ _ (by omega : m ≠ 0), Int.ediv_eq_zero_of_lt (by omega) (by omega)]
    omega
theorem fst_step {a m low high : Int} (ha : 0 < a) (ham : a < m) (h1 : 1 ≤ low) (h2 : low ≤ high) (hm : high < m) (hc : high < ceilD low a * a) : ∀ {r : Option Int}, Fst (m % a) 0 a ((-high) % a) ((-low) % a) r → Fst a 0 m low high (r.map fun y => ceilD (m * y + low) a)
  | none, h => fun x hx i => by
    obtain ⟨j, _⟩ := step_iff ha ham h1 h2 hm hc hx i
    exact h _ (Int.ediv_nonneg (Int.mul_nonneg (by omega) hx) (by omega)) j
  | some y, ⟨y0, yi, yf⟩ => by
    obtain ⟨b0, b1, b2⟩ := step_back ha ham h1 h2 hm hc y0 yi
    refine ⟨b0, b1, fun x hx xl i => ?_⟩
    obtain ⟨j, e⟩ := step_iff ha ham h1 h2 hm hc hx i
    have hy0 : 0 ≤ a * x / m := Int.ediv_nonneg (Int.mul_nonneg (by omega) hx) (by omega)
    by_cases c : a * x / m < y
    · exact yf _ hy0 c j
    · have hle : m * y ≤ m * (a * x / m) := Int.mul_le_mul_of_nonneg_left (by omega) (by omega)
      have : ceilD (m * y + low) a ≤ ceilD (m * (a * x / m) + low) a := (ceilD_iff ha).mpr (by
        have := (ceilD_le (x := m * (a * x / m) + low) ha).1
        omega)
      rw [← e] at this
      have xl : x < ceilD (m * y + low) a := xl
      omega
/-- the steps of the search, and what it ends with -/
inductive FM : Int → Int → Int → Int → List (Int × Int × Int) → Option Int → Prop where
  | none {m low high : Int} (sm : Sz 1000 m) (h1 : 1 ≤ low) (h2 : low ≤ high) (hm : high < m) : FM 0 m low high [] none
  | here {a m low high : Int} (sm : Sz 1000 m) (ha : 0 < a) (ham : a < m) (h1 : 1 ≤ low) (h2 : low ≤ high) (hm : high < m) (hc : ceilD low a * a ≤ high) : FM a m low high [] (some (ceilD low a))
  | step {a m low high : Int} {l : List (Int × Int × Int)} {r : Option Int} (sm : Sz 1000 m) (ha : 0 < a) (ham : a < m) (h1 : 1 ≤ low) (h2 : low ≤ high) (hm : high < m) (hc : high < ceilD low a * a) (h : FM (m % a) a ((-high) % a) ((-low) % a) l r) : FM a m low high ((a, m, low) :: l) r
def backF (t : Int × Int × Int) (p : Int) : Int := ceilD (t.2.1 * p + t.2.2) t.1
theorem FM.ex : ∀ (f : Nat) {a m low high : Int}, a.toNat ≤ f → 0 ≤ a → a < m → Sz 1000 m → 1 ≤ low → low ≤ high → high < m → ∃ l r, FM a m low high l r := by
  intro f
  induction f with
  | zero =>
    intro a m low high hf a0 ham sm h1 h2 hm
    obtain rfl : a = 0 := by omega
    exact ⟨_, _, .none sm h1 h2 hm⟩
  | succ f ih =>
    intro a m low high hf a0 ham sm h1 h2 hm
    by_cases ha : a = 0
    · subst ha
      exact ⟨_, _, .none sm h1 h2 hm⟩
    · have ha : 0 < a := by omega
      by_cases hc : ceilD low a * a ≤ high
      · exact ⟨_, _, .here sm ha ham h1 h2 hm hc⟩
      · obtain ⟨n1, n2, n3⟩ := no_mult ha h2 (by omega)
        have m1 := Int.emod_lt_of_pos m ha
        have m0 := Int.emod_nonneg m (b := a) (by omega)
        have r1 := Int.emod_lt_of_pos high ha
        obtain ⟨l, r, h⟩ := ih (a := m % a) (m := a) (low := (-high) % a) (high := (-low) % a) (by omega) m0 m1 (sm.le (by omega) (by omega)) (by rw [neg_emod ha (by omega)]; omega) (by rw [neg_emod ha (by omega), neg_emod ha n1]; omega) (by rw [neg_emod ha n1]; omega)
        exact ⟨_, _, .step sm ha ham h1 h2 hm (by omega) h⟩
theorem FM.sound {a m low high : Int} {l : List (Int × Int × Int)} {r : Option Int} (h : FM a m low high l r) : Fst a 0 m low high (r.map fun p => l.foldr backF p) := by
  induction h with
  | @none m low high sm h1 h2 hm =>
    intro x hx i
    obtain ⟨i1, i2⟩ := i
    rw [Int.zero_mul, Int.zero_add, Int.zero_emod] at i1
    omega
  | here sm ha ham h1 h2 hm hc => exact fst_here ha h1 hm hc
  | @step a m low high l r sm ha ham h1 h2 hm hc h ih =>
    have := fst_step ha ham h1 h2 hm hc ih
    rw [Option.map_map] at this
    exact this
theorem FM.few {a m low high : Int} {l : List (Int × Int × Int)} {r : Option Int} (h : FM a m low high l r) : ∀ e : Nat, a * m < 2 ^ e → l.length ≤ e := by
  induction h with
  | none => intro e _; exact Nat.zero_le _
  | here => intro e _; exact Nat.zero_le _
  | @step a m low high l r sm ha ham h1 h2 hm hc h ih =>
    intro e he
    have hd := Int.mul_ediv_add_emod m a
    have m1 := Int.emod_lt_of_pos m ha
    have m0 := Int.emod_nonneg m (b := a) (by omega)
    have hq : 1 ≤ m / a := Int.le_ediv_of_mul_le ha (by omega)
    have hq2 : a * 1 ≤ a * (m / a) := Int.mul_le_mul_of_nonneg_left hq (by omega)
    have h3 : 2 * (m % a * a) ≤ a * m := by
      have := Int.mul_le_mul_of_nonneg_left (show 2 * (m % a) ≤ m by omega) (show 0 ≤ a by omega)
      grind
    match e with
    | 0 =>
      have : 0 < a * m := Int.mul_pos ha (by omega)
      have he : a * m < 1 := he
      omega
    | e + 1 =>
      have he : a * m < 2 ^ e * 2 := he
      have := ih e (by omega)
      show l.length + 1 ≤ e + 1
      omega
/-- at each step back the place is less than m -/
theorem FM.drop {a m low high : Int} {l : List (Int × Int × Int)} {r : Option Int} (h : FM a m low high l r) {p : Int} (hr : r = some p) : ∀ i : Nat, ∃ M : Int, Sz 1000 M ∧ 0 ≤ (l.drop i).foldr backF p ∧ (l.drop i).foldr backF p < M := by
  induction h with
  | none => cases hr
  | @here a m low high sm ha ham h1 h2 hm hc =>
    cases hr
    intro i
    have s := FM.sound (FM.here sm ha ham h1 h2 hm hc)
    have h0 : 0 ≤ ceilD low a := s.1
    have h1 : ceilD low a < m := s.lt (by omega)
    rw [List.drop_nil]
    exact ⟨m, sm, h0, h1⟩
  | @step a m low high l r sm ha ham h1 h2 hm hc h ih =>
    intro i
    match i with
    | 0 =>
      have s := FM.sound (FM.step sm ha ham h1 h2 hm hc h)
      rw [hr] at s
      have h0 : 0 ≤ ((a, m, low) :: l).foldr backF p := s.1
      have h1 : ((a, m, low) :: l).foldr backF p < m := s.lt (by omega)
      exact ⟨m, sm, h0, h1⟩
    | i + 1 => exact ih hr i
theorem FM.tsz {a m low high : Int} {l : List (Int × Int × Int)} {r : Option Int} (h : FM a m low high l r) : ∀ t ∈ l, 0 < t.1 ∧ Sz 1000 t.1 ∧ Sz 1000 t.2.1 ∧ Sz 1000 t.2.2 := by
  induction h with
  | none => intro t ht; cases ht
  | here => intro t ht; cases ht
  | @step a m low high l r sm ha ham h1 h2 hm hc h ih =>
    intro t ht
    rcases List.mem_cons.mp ht with rfl | ht
    · exact ⟨ha, show Sz 1000 a from sm.le (by omega) (by omega), sm, show Sz 1000 low from sm.le (by omega) (by omega)⟩
    · exact ih t ht
theorem back_drop {l : List (Int × Int × Int)} {i : Nat} {t : Int × Int × Int} {p : Int} (h : l[i]? = some t) : (l.drop i).foldr backF p = backF t ((l.drop (i + 1)).foldr backF p) := by
  have hi : i < l.length := (List.getElem?_eq_some_iff.mp h).1
  rw [List.drop_eq_getElem_cons hi]
  have e : l[i] = t := (List.getElem?_eq_some_iff.mp h).2
  rw [e]
  rfl
/-- a line with a b: seen from the rest at 0 -/
theorem inb_shift {a b m low high x : Int} (hm : 0 < m) (l0 : 0 ≤ low) (lh : low ≤ high) (hh : high < m) (hr : ¬ (low ≤ b % m ∧ b % m ≤ high)) : 1 ≤ (low - b) % m ∧ (low - b) % m ≤ (high - b) % m ∧ (high - b) % m < m ∧ (Inb a b m low high x ↔ Inb (a % m) 0 m ((low - b) % m) ((high - b) % m) x) := by
  have e := Int.mul_ediv_add_emod b m
  have r0 := Int.emod_nonneg b (b := m) (by omega)
  have r1 := Int.emod_lt_of_pos b hm
  have ea : (a % m * x + 0) % m = (a * x) % m := by
    have e1 : a * x = (a % m * x + 0) + m * (a / m * x) := by
      have := Int.mul_ediv_add_emod a m
      have h5 : a % m = a - m * (a / m) := by omega
      rw [h5]
      grind
    rw [e1, Int.add_mul_emod_self_left]
  have u0 := Int.emod_nonneg (a * x) (b := m) (by omega)
  have u1 := Int.emod_lt_of_pos (a * x) hm
  have eu := Int.mul_ediv_add_emod (a * x) m
  have es : (a * x + b) % m = ((a * x) % m + b % m) % m := Int.add_emod _ _ _
  unfold Inb
  rw [ea, es]
  generalize (a * x) % m = u at *
  generalize b % m = r at *
  generalize b / m = q at *
  by_cases c : r < low
  · have el : (low - b) % m = low - r := by
      have : low - b = (low - r) + m * (-q) := by grind
      rw [this, Int.add_mul_emod_self_left, Int.emod_eq_of_lt (by omega) (by omega)]
    have eh : (high - b) % m = high - r := by
      have : high - b = (high - r) + m * (-q) := by grind
      rw [this, Int.add_mul_emod_self_left, Int.emod_eq_of_lt (by omega) (by omega)]
    rw [el, eh]
    refine ⟨by omega, by omega, by omega, ?_⟩
    by_cases c2 : u + r < m
    · rw [Int.emod_eq_of_lt (by omega) c2]
      omega
    · have : (u + r) % m = u + r - m := by
        rw [show u + r = (u + r - m) + m * 1 by omega, Int.add_mul_emod_self_left, Int.emod_eq_of_lt (by omega) (by omega)]
        omega
      rw [this]
      omega
  · have el : (low - b) % m = low - r + m := by
      have : low - b = (low - r + m) + m * (-q - 1) := by grind
      rw [this, Int.add_mul_emod_self_left, Int.emod_eq_of_lt (by omega) (by omega)]
    have eh : (high - b) % m = high - r + m := by
      have : high - b = (high - r + m) + m * (-q - 1) := by grind
      rw [this, Int.add_mul_emod_self_left, Int.emod_eq_of_lt (by omega) (by omega)]
    rw [el, eh]
    refine ⟨by omega, by omega, by omega, ?_⟩
    by_cases c2 : u + r < m
    · rw [Int.emod_eq_of_lt (by omega) c2]
      omega
    · have : (u + r) % m = u + r - m := by
        rw [show u + r = (u + r - m) + m * 1 by omega, Int.add_mul_emod_self_left, Int.emod_eq_of_lt (by omega) (by omega)]
        omega
      rw [this]
      omega
theorem fst_shift {a b m low high : Int} (hm : 0 < m) (l0 : 0 ≤ low) (lh : low ≤ high) (hh : high < m) (hr : ¬ (low ≤ b % m ∧ b % m ≤ high)) : ∀ {r : Option Int}, Fst (a % m) 0 m ((low - b) % m) ((high - b) % m) r → Fst a b m low high r
  | none, h => fun x hx i => h x hx ((inb_shift hm l0 lh hh hr).2.2.2.mp i)
  | some p, ⟨p0, pi, pf⟩ => ⟨p0, (inb_shift hm l0 lh hh hr).2.2.2.mpr pi, fun x hx xl i => pf x hx xl ((inb_shift hm l0 lh hh hr).2.2.2.mp i)⟩
theorem fst_zero {a b m low high : Int} (hr : low ≤ b % m ∧ b % m ≤ high) : Fst a b m low high (some 0) := by
  refine ⟨Int.le_refl 0, ?_, fun x hx xl => absurd hx (by omega)⟩
  unfold Inb
  rw [Int.mul_zero, Int.zero_add]
  exact hr
/-- a told place, or None -/
def oV : Option Int → V
  | none => .non
  | some p => .int p
/-- rows of three numbers -/
def R3 (H : Hp) : List V → List (Int × Int × Int) → Prop
  | [], [] => True
  | v :: vs, t :: ts => (∃ p : Addr, v = .ref p ∧ H p = some (.tup [.int t.1, .int t.2.1, .int t.2.2])) ∧ R3 H vs ts
  | _, _ => False
theorem R3.more {H H' : Hp} (h : ∀ (p : Addr) (xs : List V), H p = some (.tup xs) → H' p = some (.tup xs)) : ∀ {vs : List V} {ts : List (Int × Int × Int)}, R3 H vs ts → R3 H' vs ts
  | [], [], _ => trivial
  | v :: vs, t :: ts, ⟨⟨p, e, g⟩, r⟩ => ⟨⟨p, e, h p _ g⟩, R3.more h r⟩
theorem R3.len {H : Hp} : ∀ {vs : List V} {ts : List (Int × Int × Int)}, R3 H vs ts → vs.length = ts.length
  | [], [], _ => rfl
  | v :: vs, t :: ts, ⟨_, r⟩ => congrArg Nat.succ r.len
theorem R3.app {H : Hp} {p : Addr} {t : Int × Int × Int} (g : H p = some (.tup [.int t.1, .int t.2.1, .int t.2.2])) : ∀ {vs : List V} {ts : List (Int × Int × Int)}, R3 H vs ts → R3 H (vs ++ [.ref p]) (ts ++ [t])
  | [], [], _ => ⟨⟨p, rfl, g⟩, trivial⟩
  | v :: vs, u :: ts, ⟨e, r⟩ => ⟨e, R3.app g r⟩
theorem R3.get {H : Hp} : ∀ {vs : List V} {ts : List (Int × Int × Int)} (_ : R3 H vs ts) {i : Nat} {v : V}, vs[i]? = some v → ∃ (p : Addr) (t : Int × Int × Int), v = .ref p ∧ ts[i]? = some t ∧ H p = some (.tup [.int t.1, .int t.2.1, .int t.2.2])
  | [], [], _, i, v, h => nomatch h
  | w :: vs, t :: ts, ⟨⟨p, e, g⟩, r⟩, 0, v, h => ⟨p, t, (Option.some.inj h).symm.trans e, rfl, g⟩
  | w :: vs, t :: ts, ⟨_, r⟩, i + 1, v, h => R3.get r (i := i) h
theorem fac2_at {a b m f c x : Int} (hf : 0 < f) (hm : 0 < m) (c0 : 0 ≤ c) (c1 : c < f) : (a * f * x + (b * f + c)) % (m * f) = (a * x + b) % m * f + c := by
  have e := Int.mul_ediv_add_emod (a * x + b) m
  have r0 := Int.emod_nonneg (a * x + b) (b := m) (by omega)
  have r1 := Int.emod_lt_of_pos (a * x + b) hm
  generalize (a * x + b) / m = q at *
  generalize (a * x + b) % m = r at *
  have e2 : a * f * x + (b * f + c) = (r * f + c) + m * f * q := by
    have : a * f * x + b * f = (a * x + b) * f := by grind
    have h2 : (a * x + b) * f = (m * q + r) * f := by rw [e]
    grind
  have p0 : 0 ≤ r * f := Int.mul_nonneg r0 (by omega)
  have p1 : (r + 1) * f ≤ m * f := Int.mul_le_mul_of_nonneg_right (by omega) (by omega)
  rw [Int.add_mul, Int.one_mul] at p1
  rw [e2, Int.add_mul_emod_self_left, Int.emod_eq_of_lt (by omega) (by omega)]
/-- no rest of the wide line lies behind another one in its step -/
theorem wide_none {a b m f c k u v : Int} (hf : 0 < f) (hm : 0 < m) (c0 : 0 ≤ c) (c1 : c < f) (u0 : 0 ≤ u) (uv : u ≤ v) (v1 : v < f) (hc : c < u ∨ v < c) {r : Option Int} (h : Fst (a * f) (b * f + c) (m * f) (k * f + u) (k * f + v) r) : r = none := by
  cases r with
  | none => rfl
  | some p =>
    obtain ⟨_, ⟨i1, i2⟩, _⟩ := h
    rw [fac2_at hf hm c0 c1] at i1 i2
    generalize (a * p + b) % m = q at *
    have h1 : q = k := by
      rcases Int.lt_trichotomy q k with l | e | l
      · have := Int.mul_le_mul_of_nonneg_right (show q + 1 ≤ k by omega) (Int.le_of_lt hf)
        rw [Int.add_mul, Int.one_mul] at this
        omega
      · exact e
      · have := Int.mul_le_mul_of_nonneg_right (show k + 1 ≤ q by omega) (Int.le_of_lt hf)
        rw [Int.add_mul, Int.one_mul] at this
        omega
    subst h1
    omega
/-- two places less than a round apart have unlike rests -/
theorem round_apart {a b : Int} {m : Nat} (hm : 0 < m) {x y : Int} (h : (a * x + b) % (m : Int) = (a * y + b) % m) : ((m : Int) / (Int.gcd a m : Nat)) ∣ (x - y) := by
  have g0 : 0 < (Int.gcd a m : Nat) := Int.gcd_pos_of_ne_zero_right _ (by omega)
  obtain ⟨u, v, hb⟩ := bezout a m
  have hd : (m : Int) ∣ a * (x - y) := by
    have e1 := Int.mul_ediv_add_emod (a * x + b) m
    have e2 := Int.mul_ediv_add_emod (a * y + b) m
    rw [h] at e1
    refine ⟨(a * x + b) / m - (a * y + b) / m, ?_⟩
    rw [Int.mul_sub, Int.mul_sub]
    omega
  have hdm : ((Int.gcd a m : Nat) : Int) ∣ (m : Int) := Int.gcd_dvd_right ..
  have hg : (m : Int) ∣ (x - y) * (Int.gcd a m : Nat) := by
    rw [hb]
    obtain ⟨k, hk⟩ := hd
    exact ⟨k * u + (x - y) * v, by grind⟩
  have g1 : (0 : Int) < ((Int.gcd a m : Nat) : Int) := by omega
  generalize ((Int.gcd a m : Nat) : Int) = g at *
  obtain ⟨w, hw⟩ := hdm
  obtain ⟨k, hk⟩ := hg
  have ew : (m : Int) / g = w := by rw [hw, Int.mul_ediv_cancel_left _ (by omega)]
  rw [ew]
  refine ⟨k, ?_⟩
  have : g * (x - y) = g * (w * k) := by
    rw [hw] at hk
    grind
  exact Int.eq_of_mul_eq_mul_left (by omega) this
theorem lone_first {a b : Int} {m : Nat} (hm : 0 < m) {p : Int} (p0 : 0 ≤ p) (p1 : p < (m : Int) / (Int.gcd a m : Nat)) : Inb a b m ((a * p + b) % m) ((a * p + b) % m) p ∧ ∀ x : Int, 0 ≤ x → x < p → ¬ Inb a b m ((a * p + b) % m) ((a * p + b) % m) x := by
  refine ⟨⟨Int.le_refl _, Int.le_refl _⟩, ?_⟩
  rintro x x0 xp ⟨i1, i2⟩
  obtain ⟨k, hk⟩ := round_apart (a := a) (b := b) hm (x := p) (y := x) (by omega)
  generalize (m : Int) / (Int.gcd a m : Nat) = s at *
  have k0 : 0 < k := by
    by_cases c : 0 < k
    · exact c
    · have := Int.mul_le_mul_of_nonneg_left (show k ≤ 0 by omega) (show 0 ≤ s by omega)
      omega
  have := Int.mul_le_mul_of_nonneg_left (show 1 ≤ k by omega) (show 0 ≤ s by omega)
  omega
/-! ### rests counted: whole stretches, mirrored, wider, whole rounds -/
theorem sumF_cut (f : Nat → Int) (n : Nat) : ∀ k : Nat, sumF f (n + k) = sumF f n + sumF (fun x => f (n + x)) k
  | 0 => (Int.add_zero _).symm
  | k + 1 => by
    show sumF f (n + k) + f (n + k) = sumF f n + (sumF (fun x => f (n + x)) k + f (n + k))
    rw [sumF_cut f n k]
    omega
theorem one_iff {p q : Prop} [Decidable p] [Decidable q] (h : p ↔ q) : one p = one q := by
  unfold one
  by_cases c : p
  · rw [if_pos c, if_pos (h.mp c)]
  · rw [if_neg c, if_neg (fun z => c (h.mpr z))]
theorem one_01 {p : Prop} [Decidable p] : 0 ≤ one p ∧ one p ≤ 1 := by
  unfold one
  split <;> omega
theorem cntB_congr {a b m w a' b' m' w' : Int} {n : Nat} (h : ∀ x : Nat, x < n → ((a * x + b) % m < w ↔ (a' * x + b') % m' < w')) : cntB a b m w n = cntB a' b' m' w' n := sumF_congr fun x hx => one_iff (h x hx)
theorem mod_in {u v m : Int} : (u + v % m) % m = (u + v) % m := by
  have e := Int.mul_ediv_add_emod v m
  have : u + v = (u + v % m) + m * (v / m) := by omega
  rw [this, Int.add_mul_emod_self_left]
theorem cntB_split (a b m w : Int) (n k : Nat) : cntB a b m w (n + k) = cntB a b m w n + cntB a ((a * n + b) % m) m w k := by
  unfold cntB
  rw [sumF_cut]
  congr 1
  refine sumF_congr fun x _ => one_iff ?_
  rw [mod_in, show a * ((n + x : Nat) : Int) + b = a * x + (a * n + b) by rw [Int.natCast_add]; grind]
theorem mirror_at {a b m x : Int} (hm : 0 < m) : ((0 - a) * x + (0 - b - 1) % m) % m = m - 1 - (a * x + b) % m := by
  rw [mod_in]
  have e := Int.mul_ediv_add_emod (a * x + b) m
  have r0 := Int.emod_nonneg (a * x + b) (b := m) (by omega)
  have r1 := Int.emod_lt_of_pos (a * x + b) hm
  have e2 : (0 - a) * x + (0 - b - 1) = (m - 1 - (a * x + b) % m) + m * (-((a * x + b) / m) - 1) := by grind
  rw [e2, Int.add_mul_emod_self_left, Int.emod_eq_of_lt (by omega) (by omega)]
theorem cntB_mirror {a b m : Int} (hm : 0 < m) (w : Int) (n : Nat) : cntB (0 - a) ((0 - b - 1) % m) m (m - w) n = n - cntB a b m w n := by
  have h : cntB (0 - a) ((0 - b - 1) % m) m (m - w) n + cntB a b m w n = n := by
    unfold cntB
    rw [← sumF_add, ← Int.one_mul (n : Int), ← sumF_const 1 n]
    refine sumF_congr fun x _ => ?_
    rw [mirror_at hm]
    unfold one
    split <;> split <;> omega
  omega
theorem cntB_mod {a b m : Int} (w : Int) (n : Nat) : cntB (a % m) b m w n = cntB a b m w n ∧ cntB (a % m - m) (b % m) m w n = cntB a b m w n := by
  have ea := Int.mul_ediv_add_emod a m
  constructor
  · refine cntB_congr fun x _ => ?_
    have : a * (x : Int) + b = (a % m * x + b) + m * (a / m * x) := by grind
    rw [this, Int.add_mul_emod_self_left]
  · refine cntB_congr fun x _ => ?_
    rw [mod_in]
    have : a * (x : Int) + b = ((a % m - m) * x + b) + m * ((a / m + 1) * x) := by grind
    rw [this, Int.add_mul_emod_self_left]
theorem sumF_mono {f g : Nat → Int} : ∀ {n : Nat}, (∀ x, x < n → f x ≤ g x) → sumF f n ≤ sumF g n
  | 0, _ => Int.le_refl 0
  | n + 1, h => by
    show sumF f n + f n ≤ sumF g n + g n
    have h1 := sumF_mono (n := n) fun x hx => h x (Nat.lt_succ_of_lt hx)
    have h2 := h n (Nat.lt_succ_self n)
    omega
theorem cntB_mono {a b m w w' : Int} (h : ∀ r : Int, 0 ≤ r → r < m → r < w → r < w') (hm : 0 < m) (n : Nat) : cntB a b m w n ≤ cntB a b m w' n := by
  refine sumF_mono fun x _ => ?_
  have r0 := Int.emod_nonneg (a * (x : Int) + b) (b := m) (by omega)
  have r1 := Int.emod_lt_of_pos (a * (x : Int) + b) hm
  have := h _ r0 r1
  unfold one
  split <;> split <;> omega
theorem cntB_wider {a b m f c g w : Int} (hf : 0 < f) (hm : 0 < m) (c0 : 0 ≤ c) (c1 : c < f) (g0 : 0 ≤ g) (g1 : g < f) (w0 : 0 ≤ w) (w1 : w ≤ m) (n : Nat) :
    cntB (a % m * f) (b % m * f + c) (m * f) ((if w < m then w else m) * f + g * (if decide (w < m) = true then 1 else 0)) n = cntB a b m (if w + (if decide (c < g) = true then 1 else 0) < m then w + (if decide (c < g) = true then 1 else 0) else m) n := by
  refine cntB_congr fun x _ => ?_
  rw [fac2_at hf hm c0 c1]
  have ea := Int.mul_ediv_add_emod a m
  have er : (a % m * (x : Int) + b % m) % m = (a * x + b) % m := by
    rw [mod_in]
    have : a * (x : Int) + b = (a % m * x + b) + m * (a / m * x) := by grind
    rw [this, Int.add_mul_emod_self_left]
  rw [er]
  have r0 := Int.emod_nonneg (a * (x : Int) + b) (b := m) (by omega)
  have r1 := Int.emod_lt_of_pos (a * (x : Int) + b) hm
  generalize (a * (x : Int) + b) % m = r at *
  have step : ∀ u v : Int, u < v → u * f + f ≤ v * f := fun u v h => by
    have := Int.mul_le_mul_of_nonneg_right (show u + 1 ≤ v by omega) (Int.le_of_lt hf)
    rw [Int.add_mul, Int.one_mul] at this
    exact this
  by_cases cw : w < m
  · rw [if_pos cw, if_pos (decide_eq_true cw), Int.mul_one]
    by_cases cg : c < g
    · rw [if_pos (decide_eq_true cg)]
      have hmin : r < (if w + 1 < m then w + 1 else m) ↔ r ≤ w := by
        split <;> omega
      rw [hmin]
      rcases Int.lt_trichotomy r w with l | e | l
      · have := step r w l
        omega
      · subst e
        omega
      · have := step w r l
        omega
    · rw [show (if decide (c < g) = true then (1 : Int) else 0) = 0 from if_neg (by simp [cg]), Int.add_zero, if_pos cw]
      rcases Int.lt_trichotomy r w with l | e | l
      · have := step r w l
        omega
      · subst e
        omega
      · have := step w r l
        omega
  · obtain rfl : w = m := by omega
    rw [if_neg (by omega), if_neg (by simp), Int.mul_zero, Int.add_zero]
    have := step r w r1
    have hmin : r < (if w + (if decide (c < g) = true then 1 else 0) < w then w + (if decide (c < g) = true then 1 else 0) else w) ↔ True := by
      simp only [iff_true]
      repeat' split
      all_goals omega
    rw [hmin]
    simp only [iff_true]
    omega
/-- whole rounds -/
theorem cntB_rounds {a b m w : Int} {s : Nat} (hs : ∃ k : Int, a * s = m * k) : ∀ t : Nat, cntB a b m w (s * t) = t * cntB a b m w s
  | 0 => by
    show (0 : Int) = ((0 : Nat) : Int) * _
    grind
  | t + 1 => by
    obtain ⟨k, hk⟩ := hs
    rw [show s * (t + 1) = s + s * t from by rw [Nat.mul_succ, Nat.add_comm], cntB_split]
    have e : cntB a ((a * s + b) % m) m w (s * t) = cntB a b m w (s * t) := by
      refine cntB_congr fun x _ => ?_
      rw [mod_in, hk, show a * (x : Int) + (m * k + b) = (a * x + b) + m * k by omega, Int.add_mul_emod_self_left]
    rw [e, cntB_rounds ⟨k, hk⟩ t, Int.natCast_add]
    grind
theorem cntB_turn (a b : Int) {m : Nat} (hm : 0 < m) {w : Int} (w0 : 0 ≤ w) (w1 : w ≤ m) : cntB a b m w m = w - b % (Int.gcd a m : Nat) + (b - w) % (Int.gcd a m : Nat) := by
  have hb := sum_beneath a b m w (by omega) m w (by
    repeat' split
    all_goals omega)
  have h1 := parts_turn a b hm
  have h2 := parts_turn a (b - w) hm
  omega
theorem round_count {a b : Int} {m : Nat} (hm : 0 < m) {w : Int} (w0 : 0 ≤ w) (w1 : w ≤ m) {g : Int} (hg : ((Int.gcd a m : Nat) : Int) = g) {s : Nat} (hs : (m : Int) / g = s) :
    0 < g ∧ (m : Int) = s * g ∧ cntB a b m w s = (w - b % g + g - 1) / g ∧ 0 ≤ (w - b % g + g - 1) / g ∧ ∃ k : Int, a * s = m * k := by
  have g0 : 0 < g := by
    have : 0 < Int.gcd a m := Int.gcd_pos_of_ne_zero_right a (by omega)
    omega
  have dm : g ∣ (m : Int) := by rw [← hg]; exact Int.gcd_dvd_right ..
  have da : g ∣ a := by rw [← hg]; exact Int.gcd_dvd_left ..
  have em : (m : Int) = s * g := by
    rw [← hs]
    exact (Int.ediv_mul_cancel dm).symm
  have per : ∃ k : Int, a * s = m * k := by
    obtain ⟨k, hk⟩ := da
    exact ⟨k, by rw [hk, em]; grind⟩
  have ht := cntB_turn a b hm w0 w1
  obtain ⟨gn, hgn⟩ : ∃ k : Nat, g = (k : Int) := ⟨g.toNat, by omega⟩
  have hmn : m = s * gn := by
    have : ((m : Nat) : Int) = ((s * gn : Nat) : Int) := by rw [Int.natCast_mul, ← hgn]; exact em
    omega
  have hr := cntB_rounds (b := b) (w := w) per gn
  rw [← hmn, ht, hg, ← hgn] at hr
  have s0 := Int.emod_nonneg b (b := g) (by omega)
  have s1 := Int.emod_lt_of_pos b g0
  have t0 := Int.emod_nonneg (b - w) (b := g) (by omega)
  have t1 := Int.emod_lt_of_pos (b - w) g0
  generalize cntB a b m w s = c at *
  have ec : (w - b % g + g - 1) / g = c := by
    have e1 : w - b % g + g - 1 = (g - 1 - (b - w) % g) + g * c := by omega
    rw [e1, Int.add_mul_ediv_left _ _ (by omega : g ≠ 0), Int.ediv_eq_zero_of_lt (by omega) (by omega)]
    omega
  refine ⟨g0, em, ec.symm, ?_, per⟩
  exact Int.ediv_nonneg (by omega) (by omega)
/-- between two bounds -/
theorem cntB_within {a b m low high : Int} (lh : low ≤ high) (n : Nat) : cntB a b m (high + 1) n - cntB a b m low n = sumF (fun x => one (Inb a b m low high x)) n := by
  have h : cntB a b m (high + 1) n = cntB a b m low n + sumF (fun x => one (Inb a b m low high x)) n := by
    unfold cntB
    rw [← sumF_add]
    refine sumF_congr fun x _ => ?_
    rw [one_iff (p := Inb a b m low high (x : Int)) (q := low ≤ (a * (x : Int) + b) % m ∧ (a * (x : Int) + b) % m ≤ high) Iff.rfl]
    unfold one
    by_cases c1 : (a * (x : Int) + b) % m < low
    · rw [if_pos (by omega), if_pos c1, if_neg (by omega)]
      rfl
    · by_cases c2 : (a * (x : Int) + b) % m ≤ high
      · rw [if_pos (by omega), if_neg c1, if_pos (by omega)]
        rfl
      · rw [if_neg (by omega), if_neg c1, if_neg (by omega)]
        rfl
  omega
theorem none_within {a b m low high : Int} {n : Nat} (h : ∀ x : Int, 0 ≤ x → x < n → ¬ Inb a b m low high x) : sumF (fun x => one (Inb a b m low high x)) n = 0 := by
  rw [sumF_congr (g := fun _ => 0) fun x hx => by
    unfold one
    exact if_neg (h x (by omega) (by omega)), sumF_zero]
theorem Fst.lt_span {a b m low high : Int} {s : Nat} {p : Int} (hs : 0 < s) (per : ∃ k : Int, a * s = m * k) (h : Fst a b m low high (some p)) : p < s := by
  obtain ⟨h0, h1, h2⟩ := h
  by_cases c : p < s
  · exact c
  · obtain ⟨k, hk⟩ := per
    refine absurd ?_ (h2 (p - s) (by omega) (by omega))
    unfold Inb at *
    rw [show a * (p - s) + b = (a * p + b) + m * (-k) by grind, Int.add_mul_emod_self_left]
    exact h1
theorem cntB_nn (a b m w : Int) (n : Nat) : 0 ≤ cntB a b m w n ∧ cntB a b m w n ≤ n := cntB_range a b m w n
/-- a line of the law's sizes -/
structure Lz (H : Hp) (d p : Addr) (a b m : Int) : Prop where
  at_ : H p = some (.tup [.int a, .int b, .int m])
  ne : p ≠ d
  pos : 0 < m
  sa : Sz 210 a
  sb : Sz 210 b
  sm : Sz 210 m
theorem Lz.kd {H H' : Hp} {d p : Addr} {a b m : Int} (L : Lz H d p a b m) (k : Kd d H H') : Lz H' d p a b m := ⟨k _ _ L.at_ L.ne, L.ne, L.pos, L.sa, L.sb, L.sm⟩
theorem Lz.same {H H' : Hp} {d p : Addr} {a b m : Int} (L : Lz H d p a b m) (s : Same H H') : Lz H' d p a b m := ⟨s _ _ L.at_, L.ne, L.pos, L.sa, L.sb, L.sm⟩
theorem Lz.ln {K : PySem.W.Frag} {H : Hp} {d p : Addr} {a b m : Int} (L : Lz H d p a b m) : Ln K H p a b m := ln_mk L.at_ L.pos L.sa L.sb L.sm
/-! ### rests in order -/
/-- how many of the first k places have the rest r -/
def cntE (a b m r : Int) (k : Nat) : Int := sumF (fun y => one ((a * (y : Int) + b) % m = r)) k
/-- (r, x) is the pair with the number num of the first n places -/
structure Ord (a b m : Int) (n : Nat) (num r x : Int) : Prop where
  x0 : 0 ≤ x
  x1 : x < n
  rest : (a * x + b) % m = r
  cnt : cntB a b m r n + cntE a b m r x.toNat = num
theorem cntE_all {a b m r : Int} (n : Nat) : cntB a b m (r + 1) n - cntB a b m r n = cntE a b m r n := by
  rw [cntB_within (Int.le_refl r)]
  unfold cntE
  refine sumF_congr fun x _ => one_iff ?_
  unfold Inb
  constructor <;> intro h <;> omega
theorem cntE_mono {a b m r : Int} : ∀ {i j : Nat}, i ≤ j → cntE a b m r i ≤ cntE a b m r j
  | i, 0, h => by
    obtain rfl : i = 0 := by omega
    exact Int.le_refl _
  | i, j + 1, h => by
    by_cases e : i = j + 1
    · rw [e]
      exact Int.le_refl _
    · have h1 := cntE_mono (a := a) (b := b) (m := m) (r := r) (i := i) (j := j) (by omega)
      have h2 : cntE a b m r (j + 1) = cntE a b m r j + one ((a * (j : Int) + b) % m = r) := rfl
      have h3 := one_01 (p := (a * (j : Int) + b) % m = r)
      omega
theorem ceil_step {s : Int} (hs : 0 < s) (i : Int) : (i + 1 + s - 1) / s = (i + s - 1) / s + one (s ∣ i) := by
  have e1 := Int.emod_add_mul_ediv i s
  have r0 := Int.emod_nonneg i (b := s) (by omega)
  have r1 := Int.emod_lt_of_pos i hs
  have hd : (s ∣ i) ↔ i % s = 0 := ⟨Int.emod_eq_zero_of_dvd, Int.dvd_of_emod_eq_zero⟩
  have dv : ∀ r q : Int, 0 ≤ r → r < s → (r + s * q) / s = q := fun r q h0 h1 => by
    rw [Int.add_mul_ediv_left _ _ (by omega), Int.ediv_eq_zero_of_lt h0 h1, Int.zero_add]
  generalize i / s = q at *
  unfold one
  by_cases h : i % s = 0
  · rw [if_pos (hd.2 h), show i + 1 + s - 1 = 0 + s * (q + 1) by grind, show i + s - 1 = (s - 1) + s * q by grind, dv _ _ (by omega) (by omega), dv _ _ (by omega) (by omega)]
  · rw [if_neg (fun z => h (hd.1 z)), show i + 1 + s - 1 = (i % s) + s * (q + 1) by grind, show i + s - 1 = (i % s - 1) + s * (q + 1) by grind, dv _ _ (by omega) (by omega), dv _ _ (by omega) (by omega)]
    omega
/-- places with the rest r: the first one and those so many rounds behind it -/
theorem cntE_from {a b : Int} {m : Nat} (hm : 0 < m) {r : Int} {p : Nat} (hf : Fst a b m r r (some (p : Int))) {s : Nat} (hs : (m : Int) / (Int.gcd a m : Nat) = s) (s0 : 0 < s) (per : ∃ k : Int, a * s = m * k) : ∀ i : Nat, cntE a b m r (p + i) = ((i : Int) + s - 1) / s
  | 0 => by
    obtain ⟨h0, h1, h2⟩ := hf
    have e : cntE a b m r (p + 0) = sumF (fun _ => 0) p := by
      unfold cntE
      refine sumF_congr fun y hy => ?_
      unfold one
      rw [if_neg]
      intro z
      exact h2 (y : Int) (by omega) (by omega) ⟨by omega, by omega⟩
    rw [e, show ((0 : Nat) : Int) + s - 1 = (s : Int) - 1 by omega, Int.ediv_eq_zero_of_lt (by omega) (by omega)]
    clear e
    induction p with
    | zero => rfl
    | succ p ih => 
      have : sumF (fun _ => 0) (p + 1) = sumF (fun _ => (0 : Int)) p + 0 := rfl
      rw [this]
      have z : ∀ k : Nat, sumF (fun _ => (0 : Int)) k = 0 := by
        intro k
        induction k with
        | zero => rfl
        | succ k ih =>
          show sumF _ k + 0 = 0
          rw [ih]
          rfl
      rw [z]
      rfl
  | i + 1 => by
    have ih := cntE_from hm hf hs s0 per i
    obtain ⟨h0, h1, h2⟩ := hf
    have e : cntE a b m r (p + (i + 1)) = cntE a b m r (p + i) + one ((a * ((p + i : Nat) : Int) + b) % m = r) := rfl
    have hr : (a * (p : Int) + b) % m = r := by
      obtain ⟨i1, i2⟩ := h1
      omega
    have hd : ((a * ((p + i : Nat) : Int) + b) % m = r) ↔ ((s : Int) ∣ (i : Int)) := by
      constructor
      · intro z
        have := round_apart (a := a) (b := b) hm (x := ((p + i : Nat) : Int)) (y := (p : Int)) (by rw [z, hr])
        rw [hs, show ((p + i : Nat) : Int) - (p : Int) = (i : Int) by omega] at this
        exact this
      · rintro ⟨k, hk⟩
        obtain ⟨j, hj⟩ := per
        rw [← hr, show ((p + i : Nat) : Int) = (p : Int) + (i : Int) by omega, hk]
        rw [show a * ((p : Int) + (s : Int) * k) + b = a * (p : Int) + b + m * (j * k) by grind, Int.add_mul_emod_self_left]
    rw [e, ih, show (((i + 1 : Nat) : Int)) = (i : Int) + 1 by omega, ceil_step (by omega), one_iff hd]
/-- in_order's answer -/
theorem ord_of {a b : Int} {m : Nat} (hm : 0 < m) {n : Nat} {num r : Int} {p : Nat} (hf : Fst a b m r r (some (p : Int))) {s : Nat} (hs : (m : Int) / (Int.gcd a m : Nat) = s) (s0 : 0 < s) (per : ∃ k : Int, a * s = m * k)
    (lo : cntB a b m r n ≤ num) (hi : num < cntB a b m (r + 1) n) : Ord a b m n num r ((p : Int) + (num - cntB a b m r n) * s) := by
  obtain ⟨j, hj⟩ : ∃ j : Nat, num - cntB a b m r n = (j : Int) := ⟨(num - cntB a b m r n).toNat, by omega⟩
  have all := cntE_all (a := a) (b := b) (m := (m : Int)) (r := r) n
  have here := cntE_from hm hf hs s0 per (j * s)
  have ex : (p : Int) + (j : Int) * (s : Int) = ((p + j * s : Nat) : Int) := by simp
  have hc : (((j * s : Nat) : Int) + s - 1) / s = j := by
    rw [show ((j * s : Nat) : Int) + s - 1 = ((s : Int) - 1) + s * (j : Int) by rw [show ((j * s : Nat) : Int) = (j : Int) * (s : Int) by simp, Int.mul_comm]; omega, Int.add_mul_ediv_left _ _ (by omega), Int.ediv_eq_zero_of_lt (by omega) (by omega)]
    omega
  rw [hc] at here
  have hx : p + j * s < n := by
    rcases Nat.lt_or_ge (p + j * s) n with h | h
    · exact h
    · have := cntE_mono (a := a) (b := b) (m := (m : Int)) (r := r) h
      omega
  obtain ⟨h0, h1, h2⟩ := hf
  rw [hj, ex]
  refine ⟨by omega, by omega, ?_, ?_⟩
  · obtain ⟨k, hk⟩ := per
    obtain ⟨i1, i2⟩ := h1
    rw [← ex, show a * ((p : Int) + (j : Int) * (s : Int)) + b = a * (p : Int) + b + m * (k * j) by grind, Int.add_mul_emod_self_left]
    omega
  · rw [Int.toNat_natCast, here]
    omega
theorem cntB_full {a b m : Int} (hm : 0 < m) (n : Nat) : cntB a b m m n = n := by
  have h : cntB a b m m n = sumF (fun _ => 1) n := by
    unfold cntB
    refine sumF_congr fun x _ => ?_
    unfold one
    rw [if_pos (Int.emod_lt_of_pos _ hm)]
  rw [h]
  induction n with
  | zero => rfl
  | succ n ih =>
    show sumF _ n + 1 = _
    rw [ih (by
      unfold cntB
      refine sumF_congr fun x _ => ?_
      unfold one
      rw [if_pos (Int.emod_lt_of_pos _ hm)])]
    omega
theorem cntB_zero {a b m : Int} (hm : 0 < m) (n : Nat) : cntB a b m 0 n = 0 := by
  induction n with
  | zero => rfl
  | succ n ih =>
    have h0 := Int.emod_nonneg (a * (n : Int) + b) (b := m) (by omega)
    show cntB a b m 0 n + one _ = 0
    rw [ih]
    unfold one
    rw [if_neg (by omega)]
    rfl
theorem fst_some {a b m r : Int} {n : Nat} (h : 0 < cntE a b m r n) {q : Option Int} (hq : Fst a b m r r q) : ∃ p : Nat, q = some (p : Int) := by
  cases q with
  | none =>
    have e : cntE a b m r n = 0 := by
      have h1 : cntE a b m r n = sumF (fun x => one (Inb a b m r r (x : Int))) n := by
        unfold cntE
        refine sumF_congr fun x _ => one_iff ?_
        unfold Inb
        constructor <;> intro h <;> omega
      rw [h1]
      exact none_within fun x h0 h1 => hq x h0
    omega
  | some p =>
    obtain ⟨h0, _⟩ := hq
    exact ⟨p.toNat, by rw [Int.toNat_of_nonneg h0]⟩
theorem gcd_emodI (a : Int) (j : Nat) (hj : 0 < j) : Int.gcd (a % (j : Int)) j = Int.gcd a j := by
  have e := Int.emod_add_mul_ediv a j
  refine Nat.dvd_antisymm (Int.dvd_coe_gcd (c := ((Int.gcd (a % (j : Int)) j : Nat) : Int)) ?_ ?_ |> Int.natCast_dvd_natCast.mp) (Int.natCast_dvd_natCast.mp (Int.dvd_coe_gcd ?_ ?_))
  · have h1 : ((Int.gcd (a % (j : Int)) j : Nat) : Int) ∣ a % (j : Int) := Int.gcd_dvd_left ..
    have h2 : ((Int.gcd (a % (j : Int)) j : Nat) : Int) ∣ (j : Int) := Int.gcd_dvd_right ..
    have := Int.dvd_add h1 (Int.dvd_mul_of_dvd_left h2 (c := a / j))
    rw [e] at this
    exact this
  · exact Int.gcd_dvd_right ..
  · have h1 : ((Int.gcd a j : Nat) : Int) ∣ a := Int.gcd_dvd_left ..
    have h2 : ((Int.gcd a j : Nat) : Int) ∣ (j : Int) := Int.gcd_dvd_right ..
    have h3 : a % (j : Int) = a - j * (a / j) := by omega
    rw [h3]
    exact Int.dvd_sub h1 (Int.dvd_mul_of_dvd_left h2)
  · exact Int.gcd_dvd_right ..
theorem cntE_succ {a b m r : Int} (k : Nat) : cntE a b m r (k + 1) = cntE a b m r k + one ((a * (k : Int) + b) % m = r) := rfl
theorem cntE_hit {a b m r : Int} {x : Int} (x0 : 0 ≤ x) (h : (a * x + b) % m = r) : cntE a b m r (x.toNat + 1) = cntE a b m r x.toNat + 1 := by
  rw [cntE_succ, Int.toNat_of_nonneg x0]
  unfold one
  rw [if_pos h]
/-- pairs rise with their numbers -/
theorem Ord.lex {a b m : Int} (hm : 0 < m) {n : Nat} {i j r s x y : Int} (h : Ord a b m n i r x) (k : Ord a b m n j s y) (l : r < s ∨ (r = s ∧ x < y)) : i < j := by
  have e1 := cntE_hit (a := a) (b := b) (m := m) h.x0 h.rest
  have hx := h.x1
  have hx0 := h.x0
  have hy0 := k.x0
  have c1 := h.cnt
  have c2 := k.cnt
  rcases l with l | ⟨rfl, l⟩
  · have a1 := cntE_all (a := a) (b := b) (m := m) (r := r) n
    have a2 : cntE a b m r (x.toNat + 1) ≤ cntE a b m r n := cntE_mono (by omega)
    have a3 : cntB a b m (r + 1) n ≤ cntB a b m s n := cntB_mono (fun z _ _ hz => by omega) hm n
    have a4 : 0 ≤ cntE a b m s y.toNat := by
      have := cntE_mono (a := a) (b := b) (m := m) (r := s) (Nat.zero_le y.toNat)
      have z : cntE a b m s 0 = 0 := rfl
      omega
    omega
  · have a2 : cntE a b m r (x.toNat + 1) ≤ cntE a b m r y.toNat := cntE_mono (by omega)
    omega
theorem Ord.uniq {a b m : Int} (hm : 0 < m) {n : Nat} {i r s x y : Int} (h : Ord a b m n i r x) (k : Ord a b m n i s y) : r = s ∧ x = y := by
  have h1 : ¬ (r < s ∨ (r = s ∧ x < y)) := fun l => absurd (h.lex hm k l) (by omega)
  have h2 : ¬ (s < r ∨ (s = r ∧ y < x)) := fun l => absurd (k.lex hm h l) (by omega)
  omega
theorem Ord.rise {a b m : Int} (hm : 0 < m) {n : Nat} {i j r s x y : Int} (h : Ord a b m n i r x) (k : Ord a b m n j s y) (l : i < j) : r < s ∨ (r = s ∧ x < y) := by
  have h2 : ¬ (s < r ∨ (s = r ∧ y < x)) := fun z => absurd (k.lex hm h z) (by omega)
  have h3 : ¬ (r = s ∧ x = y) := by
    rintro ⟨rfl, rfl⟩
    have := h.cnt
    have := k.cnt
    omega
  omega
/-- how many alike stand ahead: so many rounds -/
theorem alike_count {a b : Int} {m : Nat} (hm : 0 < m) {s : Nat} (hs : (m : Int) / (Int.gcd a m : Nat) = s) (s0 : 0 < s) (per : ∃ k : Int, a * s = m * k) {x r : Int} (x0 : 0 ≤ x) (hr : (a * x + b) % m = r) : cntE a b m r x.toNat = x / s := by
  have e := Int.emod_add_mul_ediv x s
  have p0 := Int.emod_nonneg x (b := (s : Int)) (by omega)
  have p1 := Int.emod_lt_of_pos x (show (0 : Int) < s by omega)
  have q0 : 0 ≤ x / (s : Int) := Int.ediv_nonneg x0 (by omega)
  obtain ⟨p, hp⟩ : ∃ p : Nat, x % (s : Int) = (p : Int) := ⟨(x % (s : Int)).toNat, by omega⟩
  obtain ⟨q, hq⟩ : ∃ q : Nat, x / (s : Int) = (q : Int) := ⟨(x / (s : Int)).toNat, by omega⟩
  rw [hp, hq] at e
  rw [hp] at p0 p1
  obtain ⟨k, hk⟩ := per
  have hr2 : (a * (p : Int) + b) % m = r := by
    rw [← hr, ← e, show a * ((p : Int) + (s : Int) * (q : Int)) + b = a * (p : Int) + b + m * (k * q) by grind, Int.add_mul_emod_self_left]
  obtain ⟨i1, i2⟩ := lone_first (a := a) (b := b) hm (p := (p : Int)) p0 (by rw [hs]; exact p1)
  rw [hr2] at i1 i2
  have hf : Fst a b m r r (some (p : Int)) := ⟨p0, i1, i2⟩
  have hc := cntE_from hm hf hs s0 ⟨k, hk⟩ (s * q)
  rw [hq, show x.toNat = p + s * q by
    have : ((p + s * q : Nat) : Int) = (p : Int) + (s : Int) * (q : Int) := by simp
    omega, hc, show ((s * q : Nat) : Int) + s - 1 = ((s : Int) - 1) + s * (q : Int) by rw [show ((s * q : Nat) : Int) = (s : Int) * (q : Int) by simp]; omega, Int.add_mul_ediv_left _ _ (by omega), Int.ediv_eq_zero_of_lt (by omega) (by omega)]
  omega
theorem Ord.more {a b m : Int} {n : Nat} {i r x : Int} (h : Ord a b m n i r x) : i < cntB a b m (r + 1) n := by
  have e1 := cntE_hit (a := a) (b := b) (m := m) h.x0 h.rest
  have hx := h.x1
  have hx0 := h.x0
  have c1 := h.cnt
  have a1 := cntE_all (a := a) (b := b) (m := m) (r := r) n
  have a2 : cntE a b m r (x.toNat + 1) ≤ cntE a b m r n := cntE_mono (by omega)
  omega
theorem cntB_none {a b m w : Int} {n : Nat} (h : cntB a b m w n = 0) {y : Nat} (hy : y < n) : ¬ (a * (y : Int) + b) % m < w := by
  intro z
  have e : cntB a b m w (y + 1) = cntB a b m w y + one ((a * (y : Int) + b) % m < w) := rfl
  have o : one ((a * (y : Int) + b) % m < w) = 1 := by
    unfold one
    rw [if_pos z]
  have m1 : cntB a b m w (y + 1) ≤ cntB a b m w n := by
    obtain ⟨k, rfl⟩ : ∃ k, n = y + 1 + k := ⟨n - (y + 1), by omega⟩
    have sp := cntB_split a b m w (y + 1) k
    have := cntB_range a ((a * ((y + 1 : Nat) : Int) + b) % m) m w k
    omega
  have := cntB_range a b m w y
  omega
theorem cntE_none {a b m r : Int} {n : Nat} (h : cntE a b m r n = 0) {y : Nat} (hy : y < n) : ¬ (a * (y : Int) + b) % m = r := by
  intro z
  have e := cntE_hit (a := a) (b := b) (m := m) (r := r) (x := (y : Int)) (by omega) z
  rw [Int.toNat_natCast] at e
  have m1 : cntE a b m r (y + 1) ≤ cntE a b m r n := cntE_mono (by omega)
  have m2 := cntE_mono (a := a) (b := b) (m := m) (r := r) (Nat.zero_le y)
  have m3 : cntE a b m r 0 = 0 := rfl
  omega
/-- the least pair -/
theorem Ord.least {a b m : Int} (hm : 0 < m) {n : Nat} {r x : Int} (h : Ord a b m n 0 r x) : cntB a b m r n = 0 ∧ Fst a b m 0 r (some x) := by
  have c := h.cnt
  have b0 := cntB_range a b m r n
  have e0 := cntE_mono (a := a) (b := b) (m := m) (r := r) (Nat.zero_le x.toNat)
  have z : cntE a b m r 0 = 0 := rfl
  have h1 : cntB a b m r n = 0 := by omega
  have h2 : cntE a b m r x.toNat = 0 := by omega
  have hr := Int.emod_nonneg (a * x + b) (b := m) (by omega)
  refine ⟨h1, h.x0, ⟨hr, by rw [h.rest]; exact Int.le_refl _⟩, fun y y0 yx hi => ?_⟩
  have k1 := cntB_none h1 (y := y.toNat) (by have := h.x1; omega)
  have k2 := cntE_none h2 (y := y.toNat) (by omega)
  rw [Int.toNat_of_nonneg y0] at k1 k2
  obtain ⟨_, i2⟩ := hi
  omega
theorem Ord.longer {a b m : Int} {n : Nat} {i r x : Int} (h : Ord a b m n i r x) : Ord a b m (n + 1) (i + one ((a * (n : Int) + b) % m < r)) r x := by
  refine ⟨h.x0, by have := h.x1; omega, h.rest, ?_⟩
  have e : cntB a b m r (n + 1) = cntB a b m r n + one ((a * (n : Int) + b) % m < r) := rfl
  have := h.cnt
  omega
/-- the last pair of a line, the first one of the line below nought -/
theorem Ord.mirrored {a b m : Int} (hm : 0 < m) {n : Nat} {r x s y : Int} (h : Ord a b m n ((n : Int) - 1) r x) (k : Ord (0 - a) ((0 - b - 1) % m) m n 0 s y) : s = m - 1 - r := by
  obtain ⟨k1, _⟩ := k.least hm
  have hx0 := h.x0
  have hx1 := h.x1
  have ky0 := k.x0
  have ky1 := k.x1
  have m1 := h.more
  have f := cntB_range a b m (r + 1) n
  have hall : cntB a b m (r + 1) n = n := by omega
  -- the mirrored rest at x is none beneath s
  have q1 := cntB_none k1 (y := x.toNat) (by omega)
  rw [Int.toNat_of_nonneg hx0, mirror_at hm, h.rest] at q1
  -- and s is the mirrored rest at y, where the rest is r at most
  have e1 := k.rest
  rw [mirror_at hm] at e1
  have q2 : (a * y + b) % m < r + 1 := by
    have := cntB_mirror (a := a) (b := b) hm (r + 1) n
    rw [hall, Int.sub_self] at this
    have q3 := cntB_none this (y := y.toNat) (by omega)
    rw [Int.toNat_of_nonneg ky0, mirror_at hm] at q3
    omega
  omega
/-! ### a lambda with one parameter, handed to a def that calls it (own rules beside HandS.Lambda) -/
/-- the names of a lambda: its parameter a, captured ones, those of the module -/
structure LamP (sc scope : Scope) (a : Str) : Prop where
  kind : scope.kind = .function
  co : scope.isCoroutine = false
  gen : scope.isGenerator = false
  par : scope.names.lookup a = some .local
  own : ∀ y ∈ scope.names, y.2 ≠ .cell ∧ (y.2 = .local → y.1 = a)
  free : ∀ y ∈ scope.names, y.2 = .free → sc.names.lookup y.1 = some .cell ∨ sc.names.lookup y.1 = some .free
def lamPB (sc scope : Scope) (a : Str) : Bool :=
  decide (scope.kind = .function) && !scope.isCoroutine && !scope.isGenerator && decide (scope.names.lookup a = some .local) &&
    scope.names.all fun y => !decide (y.2 = .cell) && (!decide (y.2 = .local) || decide (y.1 = a)) && (!decide (y.2 = .free) || (decide (sc.names.lookup y.1 = some .cell) || decide (sc.names.lookup y.1 = some .free)))
theorem lamP_by {sc scope : Scope} {a : Str} (h : lamPB sc scope a = true) : LamP sc scope a := by
  unfold lamPB at h
  simp only [Bool.and_eq_true, Bool.or_eq_true, Bool.not_eq_true', decide_eq_true_eq, decide_eq_false_iff_not, List.all_eq_true] at h
  obtain ⟨⟨⟨⟨k1, k2⟩, k3⟩, k4⟩, k5⟩ := h
  refine ⟨k1, k2, k3, k4, fun y hy => ⟨(k5 y hy).1.1, fun z => ?_⟩, fun y hy z => ?_⟩
  · rcases (k5 y hy).1.2 with n | n
    · exact absurd z n
    · exact n
  · rcases (k5 y hy).2 with n | n
    · exact absurd z n
    · exact n
/-- the context of the lambda's body: the maker's names, behind them the parameter; nothing is let out -/
def lamC (X : Cx) (A : Around) (outer : List Env) (s : Shared) (H : Hp) (scope : Scope) (f c' : Addr) (a : Str) : Cx where
  prog := X.prog
  w := X.w
  K := X.K
  mg := X.mg
  base := X.base
  A := A.deeper (LamX.lamEnv X scope s.heap.objs.size f c')
  N := X.N ++ [a]
  s_0 := s
  H_0 := H
  env := LamX.lamEnv X scope s.heap.objs.size f c'
  outer := outer
  stack := LamX.lamEnv X scope s.heap.objs.size f c' :: outer
  ex := []
  fn := fun _ => false
  calm := true
  pn := []
  xe := fun _ _ => False
section
variable {X : Cx} {pins : List (Addr × Obj)} {σ : L2.St} {H H1 : Hp} {s s1 : Shared} {scope : Scope} {a : Str} {f c' : Addr}
theorem LamP.has (L : LamP X.env.scope scope a) (ok : X.Ok) : ∀ y ∈ scope.names, y.2 = .free → ∃ c, X.env.cells.lookup y.1 = some c := fun y hy z => ok.has y.1 (L.free y hy z)
/-- the lambda's cells are the maker's -/
theorem lam_cell (L : LamP X.env.scope scope a) (ok : X.Ok) {y : Str} {c : Addr} (h : (cloFrom X.env.cells scope.names []).lookup y = some c) : X.env.cells.lookup y = some c := by
  rcases cloFrom_mem (PySem.mem_of_lookup h) with z | ⟨k1, k2⟩
  · exact nomatch z
  · obtain ⟨d, hd⟩ := L.has ok _ k1 rfl
    have hd' : X.env.cells.lookup y = some d := hd
    have : c = d := by
      rw [k2, hd'] <;> rfl
    rw [this]
    exact hd'
theorem lam_inv {A : Around} {outer : List Env} {h₁ : Heap} {tk : Nat} {u : Value} {v : V} (I : Inv X pins σ H s) (L : LamP X.env.scope scope a) (new : a ∉ X.N) (e0 : Env0 X.prog X.w X.K X.mg X.base A outer s1 H1) (calm : A.handled = none)
    (un : Un (frs X.stack) [] H H1 s.heap s1.heap) (hns : h₁.Ns s1.heap.objs.size fun y => [(a, u)].reverse.lookup y) (kp : ∀ b o, s1.heap.get? b = some o → h₁.get? b = some o) (rv : RelV v u) :
    Inv (lamC X A outer s1 H1 scope f c' a) [] (σ ++ [some v]) H1 { s1 with heap := h₁, toks := tk } := by
  have cellK : ∀ {d : Addr} {x : Option Value}, H d = none → s.heap.IsCell d x → h₁.IsCell d x := by
    rintro d x n ⟨o, ho, hd⟩
    obtain ⟨sl, got⟩ := un.any ho n (fun z => nomatch z)
    exact ⟨_, kp _ _ got, hd⟩
  have there : ∀ {y : Str}, scope.names.lookup y = some .free → ∃ d, (cloFrom X.env.cells scope.names []).lookup y = some d := fun {y} hl =>
    mem_lookup (cloFrom_has (cells := X.env.cells) (acc := []) (show (y, NameKind.free) ∈ scope.names from PySem.mem_of_lookup hl))
  have noex : ∀ b : Addr, b ∉ (lamC X A outer s1 H1 scope f c' a).ex := fun b z => nomatch (show b ∈ ([] : List Addr) from z)
  have ok : (lamC X A outer s1 H1 scope f c' a).Ok :=
    { mod := e0.mod, kind := L.kind, glob := rfl, blt := rfl, above := Nat.le_refl _
      inj := fun y z d p q => I.ok.inj y z d (lam_cell L I.ok p) (lam_cell L I.ok q)
      has := fun y hy => by
        rcases (show scope.names.lookup y = some .cell ∨ scope.names.lookup y = some .free from hy) with z | z
        · exact absurd rfl (L.own _ (PySem.mem_of_lookup z)).1
        · exact there z
      cab := fun _ _ z _ => (nomatch (show false = true from z))
      hd := fun _ => calm, frames := Around.frames_deeper e0.frames, stk := .inr ⟨rfl, rfl⟩
      exf := fun b z => absurd z (noex b), bs := e0.bs, bsz := e0.bsz, noex := fun b _ _ => noex b, exfs := fun b z => absurd z (noex b), funs := e0.funs, frf := e0.frf }
  have lenN : σ.length = X.N.length := I.len
  refine { ok := ok, os := rfl, bare := e0.bare, base := Un.kept kp, loc := ⟨_, hns, fun i y x hi hx vis => ?_⟩, cell := fun y d e => ?_, free := e0.hok.fresh (Nat.le_refl _), freeC := fun y d e => ?_, pin := fun q hq => (nomatch (show q ∈ ([] : List (Addr × Obj)) ++ [] from hq)), hok := e0.hok.kept kp, len := by simp [lamC, lenN] }
  · have hi : (X.N ++ [a])[i]? = some y := hi
    rcases Nat.lt_or_ge i X.N.length with lt | ge
    · rw [List.getElem?_append_left lt] at hi
      rw [List.getElem?_append_left (by omega)] at hx
      have ya : y ≠ a := fun z => new (z ▸ List.mem_of_getElem? hi)
      rcases (show scope.names.lookup y = some .local ∨ scope.names.lookup y = some .cell ∨ scope.names.lookup y = some .free from vis) with z | z | z
      · exact absurd ((L.own _ (PySem.mem_of_lookup z)).2 rfl) ya
      · exact absurd rfl (L.own _ (PySem.mem_of_lookup z)).1
      · obtain ⟨m, _, look⟩ := I.loc
        have way := L.free _ (PySem.mem_of_lookup z) rfl
        have seen : Vis X.env.scope y := way.elim (fun k => .inr (.inl k)) fun k => .inr (.inr k)
        obtain ⟨u', ru, l⟩ := look i y x hi hx seen
        obtain ⟨d, hd⟩ := there z
        have hd' := lam_cell L I.ok hd
        refine ⟨u', ru, .inr ⟨.inr z, d, hd, ?_⟩⟩
        rcases l with ⟨k, _⟩ | ⟨_, d', e', cc⟩
        · have k : X.env.scope.names.lookup y = some .local := k
          rcases way with w' | w' <;> rw [show X.env.scope.names.lookup y = _ from w'] at k <;> exact nomatch k
        · rw [hd'] at e'
          cases e'
          exact cellK (I.freeC y _ hd') cc
    · have hlen : i = X.N.length := by
        have := (List.getElem?_eq_some_iff.mp hi).1
        rw [List.length_append, List.length_singleton] at this
        omega
      subst hlen
      rw [List.getElem?_append_right (Nat.le_refl _), Nat.sub_self] at hi
      rw [List.getElem?_append_right (by omega), show X.N.length - σ.length = 0 by omega] at hx
      cases hi
      cases hx
      refine ⟨u, rv, .inl ⟨L.par, ?_⟩⟩
      show ([(a, u)].reverse.lookup a) = some u
      simp
  · obtain ⟨x, z⟩ := I.cell y d (lam_cell L I.ok e)
    exact ⟨x, cellK (I.freeC y d (lam_cell L I.ok e)) z⟩
  · obtain ⟨x, o, ho, hd⟩ := I.cell y d (lam_cell L I.ok e)
    exact un.free d o ho (I.freeC y d (lam_cell L I.ok e)) (fun z => nomatch z)
/-- the lambda is called -/
theorem lam_run {params : Arguments} {body : Expr} {pm ctv : Value} {k : Nat} {A : Around} {outer : List Env} {u : Value} {v : V} {Q : VK} {tb : TE} {q : Str} (I : Inv X pins σ H s) (L : LamP X.env.scope scope a) (new : a ∉ X.N)
    (hf : s.heap.get? f = some (PySem.W.kla_obj "<lambda>" q params body scope (cloFrom X.env.cells scope.names []) pm c' ctv)) (hq : q = X.env.qual ++ "<lambda>") (hfn : H f = none) (hfr : f ∉ frs X.stack)
    (hbind : ∀ u, bindArgs (PySem.W.kla_fn "<lambda>" q params body scope (cloFrom X.env.cells scope.names []) pm (.ref c') ctv) ⟨[u], []⟩ = pure [(a, u)])
    (e0 : Env0 X.prog X.w X.K X.mg X.base A outer s1 H1) (hr : Room (k + 1) A) (un : Un (frs X.stack) [] H H1 s.heap s1.heap) (hc : H1 c' = some (LamX.CodeO c' q)) (rv : RelV v u)
    (hbody : ∀ (A : Around) (outer : List Env) (s : Shared) (H : Hp), Room k (A.deeper (LamX.lamEnv X scope s.heap.objs.size f c')) → PE (lamC X A outer s H scope f c' a) body tb) (h : tb (σ ++ [some v]) H1 Q) :
    codeAny (model X.prog X.w) A (.call (.ref f) ⟨[u], []⟩) (CR CX0 outer X.prog X.w H1 s1 Q E0) s1 := by
  have got := un.keep f _ hf hfn hfr (fun z => nomatch z)
  have lim : s1.heap.NoLimit := e0.mod.nolimit.keeps fun b o e => (e0.bs b o e).1
  obtain ⟨⟨oc, vs, t, c1, c2, c3⟩, _, _⟩ := e0.hok c' _ hc
  refine PySem.W.kla_callFunE hr.depth got rfl L.co L.gen rfl ⟨c', oc, vs, t, rfl, c1, c2, c3⟩ ?_
  rw [hbind u]
  refine wpAny_pure (wpAny_newFunctionEnv (fun y hy => (L.own y hy).1) (fun y hy => ?_) (fun h₁ hns hsb => ⟨lim.fresh _ hsb, ?_⟩) L.kind)
  · rw [List.mem_singleton.mp hy]
    exact L.par
  subst hq
  have kp : ∀ b o, s1.heap.get? b = some o → h₁.get? b = some o := fun b o e => hsb.extBut b o (Nat.ne_of_lt (Heap.lt_size e)) (Heap.get?_push_of_some _ e)
  have J : Inv (lamC X A outer s1 H1 scope f c' a) [] (σ ++ [some v]) H1 { s1 with heap := h₁, toks := s1.toks + [(a, u)].length } := lam_inv I L new e0 hr.hd un hns kp rv
  refine PySem.W.kla_codeExpr (wpAny_mono ((hbody A outer s1 H1 (hr.deeper _)).run [] _ _ H1 Q J h) (fun y s' hy => ?_) fun _ _ z => False.elim z)
  obtain ⟨y', H', J', ry, qy⟩ := hy
  exact ⟨y', H', J'.os, J'.bare, J'.base, J'.hok, ry, qy⟩
end
/-- x(e) where the i-th slot holds f -/
def tUse (i : Nat) (f : Addr) (tl : V → Hp → VK → Prop) (te : TE) : TE := fun σ H Q => σ[i]? = some (some (.ref f)) ∧ te σ H fun v H' => tl v H' Q
theorem pe_use {Z : Cx} {i : Nat} {x : Str} {f : Addr} {e : Expr} {te : TE} {tl : V → Hp → VK → Prop} {p1 p2 : Pos} (he : PE Z e te) (hN : Z.N[i]? = some x) (hv : Vis Z.env.scope x) (hd : (x == ("__debug__" : Str)) = false) (hcd : (x == ("__classdict__" : Str)) = false)
    (fn : ∀ {pins : List (Addr × Obj)} {σ : L2.St} {H : Hp} {s : Shared}, Inv Z pins σ H s → PySem.W.FnAt f s.heap)
    (run : ∀ {pins : List (Addr × Obj)} {σ : L2.St} {H : Hp} {s : Shared} {u : Value} {v : V} {Q : VK}, Inv Z pins σ H s → RelV v u → tl v H Q → codeAny (model Z.prog Z.w) Z.A (.call (.ref f) ⟨[u], []⟩) (CR CX0 Z.stack Z.prog Z.w H s Q E0) s)
    (hst : starEach [e] Z.env = [(false, eval e Z.env)]) : PE Z (.Call (.Name x p1) [e] [] p2) (tUse i f tl te) := by
  refine ⟨fun pins s σ H Q I h => ?_⟩
  obtain ⟨hs, ht⟩ := h
  refine wpAny_Call_Name_kw (thn ((pe_var (pos := p1) (i := i) hN hv hd hcd).run pins s σ H (fun v H1 => v = .ref f ∧ H1 = H) I ⟨.ref f, hs, rfl, rfl⟩) fun y s1 ⟨v, H1, I1, r1, z1, z2⟩ => ?_)
  subst z1 z2
  obtain rfl : y = Value.ref f := r1
  refine PySem.W.callWith_F (fn I1) ?_ hst rfl
  rw [hst]
  refine Calls.spliced_cons (thn (he.run pins s1 σ H1 _ I1 ht) fun u s2 ⟨v, H2, I2, r2, q2⟩ => Calls.spliced_nil ⟨fn I2, ?_⟩)
  refine wpAny_call (codeAny_mono (run I2 r2 q2) fun r s3 hq => ?_)
  match r, hq with
  | .error _, hq => exact (show False from hq).elim
  | .ok (.ret _), hq => exact I2.after hq
/-- first_such(low, high, is_such): what it makes of a test pr that is true from some number on -/
def Such (lo hi : Int) (tl : V → Hp → VK → Prop) (H : Hp) (Q : VK) : Prop := lo ≤ hi ∧ ∃ pr : Int → Bool, (∀ (x : Int) (H' : Hp) (Q' : VK), lo ≤ x → x < hi → Same H H' → (∀ H'', Same H' H'' → Q' (.bl (pr x)) H'') → tl (.int x) H' Q') ∧
  (∀ x y, lo ≤ x → x ≤ y → y < hi → pr x = true → pr y = true) ∧ ∀ (r : Int) (H' : Hp), Same H H' → lo ≤ r → r ≤ hi → (∀ x, lo ≤ x → x < r → pr x = false) → (r < hi → pr r = true) → Q (.int r) H'
/-- a def of three parameters that serves so -/
def UsesL (P : Program) (w : World) (K : PySem.W.Frag) (mg : Str → Option Value) (base : Heap) (Ng : List Str) (qg : Str) (sg : Scope) (g : Addr) (bd : List Stmt) (x : Str) : Prop :=
  ∀ (cdv : Value) (A : Around) (outer : List Env) (s : Shared) (H : Hp) (lo hi : Int) (f : Addr) (Q : VK) (tl : V → Hp → VK → Prop),
    (∀ {e : Expr} {te : TE} {p1 p2 : Pos}, PE (cxOf CX0 P w K mg base Ng qg sg g cdv A outer s H E0).nox e te → starEach [e] (cxOf CX0 P w K mg base Ng qg sg g cdv A outer s H E0).nox.env = [(false, eval e (cxOf CX0 P w K mg base Ng qg sg g cdv A outer s H E0).nox.env)] →
      PE (cxOf CX0 P w K mg base Ng qg sg g cdv A outer s H E0).nox (.Call (.Name x p1) [e] [] p2) (tUse 2 f tl te)) → Such lo hi tl H Q →
    ∃ t, PSs (cxOf CX0 P w K mg base Ng qg sg g cdv A outer s H E0).nox bd t ∧ t { nx := fun _ H' => Q .non H', rt := Q } (L2.start Ng [.int lo, .int hi, .ref f]) H
/-- x(e1, e2, lambda a: body) -/
def tLam (P : Addr) (q : Str) (t1 t2 tb : TE) : TE := fun σ H Q => t1 σ H fun v1 H1 => t2 σ H1 fun v2 H2 => ∃ lo hi, v1 = .int lo ∧ v2 = .int hi ∧ LamX.TabS H2 P q ∧ ∀ H3, LamX.ExtN H2 H3 → LamX.TabS H3 P q → Such lo hi (fun v H' Q' => tb (σ ++ [some v]) H' Q') H3 Q
theorem pe_lam {X : Cx} {x y a q : Str} {st : Stmt} {g c P : Addr} {fd : FuncData} {k : Nat} {Ng : List Str} {params : Arguments} {body : Expr} {scope : Scope} {b1 b2 : Str} {e1 e2 : Expr} {t1 t2 tb : TE} {p lpos pos : Pos} (F : Fun X.K x x st g fd) (hb : Binds X.K fd [b1, b2, y] [])
    (Sg : FnScope Ng [b1, b2, y] (defScope st)) (hy : Ng[2]? = some y) (hvy : Vis (defScope st) y) (hdy : (y == ("__debug__" : Str)) = false) (hcy : (y == ("__classdict__" : Str)) = false) (U : UsesL X.prog X.w X.K X.mg X.base Ng x (defScope st) g (defBody st) y)
    (hg : Gl X x) (hm : X.mg x = some (.ref g)) (TB : LamX.TabB X.base X.mg c P) (hcode : X.env.code = .ref c) (hq : q = X.env.qual ++ "<lambda>") (hr : Room (k + 2) X.A) (L : LamP X.env.scope scope a) (new : a ∉ X.N) (hdef : defaultsOf params X.env = ([], []))
    (hbind : ∀ (q : Str) (cl : List (Str × Addr)) (pm cv ctv u : Value), bindArgs (PySem.W.kla_fn "<lambda>" q params body scope cl pm cv ctv) ⟨[u], []⟩ = pure [(a, u)]) (h1 : PE X e1 t1) (h2 : PE X e2 t2)
    (hbody : ∀ (A : Around) (outer : List Env) (s : Shared) (H : Hp) (f c' : Addr), Room k (A.deeper (LamX.lamEnv X scope s.heap.objs.size f c')) → PE (lamC X A outer s H scope f c' a) body tb)
    (hst : starEach [e1, e2, .Lambda params body scope lpos] X.env = [(false, eval e1 X.env), (false, eval e2 X.env), (false, eval (.Lambda params body scope lpos) X.env)] := by rfl)
    (hst1 : starEach [e2, .Lambda params body scope lpos] X.env = [(false, eval e2 X.env), (false, eval (.Lambda params body scope lpos) X.env)] := by rfl) (hdx : (x == ("__debug__" : Str)) = false := by decide) :
    PE X (.Call (.Name x p) [e1, e2, .Lambda params body scope lpos] [] pos) (tLam P q t1 t2 tb) := by
  subst hq
  refine ⟨fun pins s σ H Q I h => ?_⟩
  refine wpAny_Call_Name_kw (ld_glob I hg hm ?_ hdx)
  refine PySem.W.callWith_K (h₀ := X.base) I.ok.mod.kin F.kp ?_ (by rw [hst, hst1]) (by rw [hst1]; rfl)
  rw [hst]
  refine Calls.spliced_cons (thn (h1.run pins s σ H _ I h) fun u1 s1 ⟨v1, H1, I1, r1, q1⟩ => ?_)
  refine Calls.spliced_cons (thn (h2.run pins s1 σ H1 _ I1 q1) fun u2 s2 ⟨v2, H2, I2, r2, lo, hi, z1, z2, tab, go⟩ => ?_)
  subst z1 z2
  refine Calls.spliced_cons (LamX.lam_make2 (T := [(P, X.env.qual ++ "<lambda>")]) I2 TB hcode List.mem_cons_self (fun p hp _ => by rw [List.mem_singleton.mp hp]) (fun p hp => by rw [List.mem_singleton.mp hp]; exact tab) hdef (L.has I2.ok) ?_)
  intro f c' pm ctv H3 s3 I3 ext tabs got fresh nofr code
  refine Calls.spliced_nil ⟨I3.kIn, ?_⟩
  have such := go H3 ext (tabs _ List.mem_cons_self)
  obtain ⟨oc, od, kV, doc, pm', an, cdv, ct, osl, rfl, lk, hcd⟩ := F.ex
  have rc : codeAny (model X.prog X.w) X.A (.call (.ref g) ⟨[u1, u2, .ref f], []⟩) (CR CX0 X.stack X.prog X.w H3 s3 Q E0) s3 := by
    refine LamX.run_ofS (N := Ng) (ps := [b1, b2, y]) (us := [u1, u2, .ref f]) (vs := [.int lo, .int hi, .ref f]) lk hcd Sg hr I3.env0 (hb s3 [u1, u2, .ref f] I3.kIn rfl) (.cons r1 (.cons r2 (.cons rfl .nil))) rfl fun hr' => ?_
    have such' : Such lo hi (fun v H' Q' => H' c' = some (LamX.CodeO c' (X.env.qual ++ "<lambda>")) ∧ tb (σ ++ [some v]) H' Q') H3 Q := by
      obtain ⟨le, pr, k1, k2, k3⟩ := such
      exact ⟨le, pr, fun z H' Q' z0 z1 sm hq => ⟨sm _ _ code, k1 z H' Q' z0 z1 sm hq⟩, k2, k3⟩
    obtain ⟨t, ht, hq⟩ := U cdv X.A X.stack s3 H3 lo hi f Q _ (fun {e te p1 p2} he hst => pe_use he hy hvy hdy hcy (fun {pz sz hz zz} Iz => ⟨_, _, _, _, Iz.base.keep f _ got fresh nofr (fun z => nomatch z)⟩)
      (fun {pz sz hz zz u v Qz} Iz rv hz' => lam_run (X := X) (k := k) I3 L new got rfl fresh nofr (fun u => hbind _ _ _ _ _ u) Iz.env0 hr' Iz.base hz'.1 rv (fun A outer s H hr2 => hbody A outer s H f c' hr2) hz'.2) hst) such'
    exact ⟨t, ht.nox, hq⟩
  refine wpAny_call (codeAny_mono rc fun r s4 hq => ?_)
  match r, hq with
  | .error _, hq => exact (show False from hq).elim
  | .ok (.ret _), hq => exact I3.after hq
/-- a def whose code object is known -/
theorem fun_okC {P : Program} {w : World} {K : PySem.W.Frag} {mg : Str → Option Value} {base : Heap} {x qual : Str} {st : Stmt} {f c : Addr} {fd : FuncData} {N ps : List Str} {k : Nat} {sp : Sp} (F : Fun K x qual st f fd) (hc : fd.code = .ref c) (S : FnScope N ps (defScope st)) (len : ∀ vs H Q E, sp vs H Q E → vs.length = ps.length)
    (hbody : ∀ (A : Around) (outer : List Env) (s : Shared) (H : Hp) (vs : List V) (Q : VK) (E : XK), Room k (A.deeper (envOfC qual (defScope st) s.heap.objs.size f (.ref c))) → sp vs H Q E →
      ∃ t, PSs (cxOf CX0 P w K mg base N qual (defScope st) f (.ref c) A outer s H E).nox (defBody st) t ∧ t { nx := fun _ H' => Q .non H', rt := Q } (L2.start N vs) H) : FnOk P w K mg base CX0 (k + 1) f fd ps sp := by
  obtain ⟨oc, od, kV, doc, pm, an, cdv, ct, osl, rfl, lk, hcd⟩ := F.ex
  obtain rfl : cdv = .ref c := hc
  refine fn_of lk hcd S len fun A outer s H vs Q E hr h => ?_
  obtain ⟨t, ht, q⟩ := hbody A outer s H vs Q E hr h
  exact ⟨t, ht.nox, q⟩
theorem r_lam {P : Addr} {q : Str} {t1 t2 tb : TE} {σ : L2.St} {H : Hp} {Q : VK} (h : t1 σ H fun v1 H1 => t2 σ H1 fun v2 H2 => ∃ lo hi, v1 = .int lo ∧ v2 = .int hi ∧ LamX.TabS H2 P q ∧ ∀ H3, LamX.ExtN H2 H3 → LamX.TabS H3 P q → Such lo hi (fun v H' Q' => tb (σ ++ [some v]) H' Q') H3 Q) : tLam P q t1 t2 tb σ H Q := h
theorem r_useV {i : Nat} {f : Addr} {tl : V → Hp → VK → Prop} {te : TE} {σ : L2.St} {H : Hp} {Q : VK} (hs : σ[i]? = some (some (.ref f))) (h : te σ H fun v H' => tl v H' Q) : tUse i f tl te σ H Q := ⟨hs, h⟩
/-! ### what stays while tables grow -/
abbrev Ex (H H' : Hp) : Prop := LamX.ExtN H H'
theorem Ex.of {H H' : Hp} (s : Same H H') : Ex H H' := fun b o e _ => s b o e
theorem Ex.tup {H H' : Hp} (e : Ex H H') {p : Addr} {xs : List V} (h : H p = some (.tup xs)) : H' p = some (.tup xs) := e _ _ h (fun _ z => nomatch z)
theorem Ex.lst {H H' : Hp} (e : Ex H H') {p : Addr} {xs : List V} (h : H p = some (.lst xs)) : H' p = some (.lst xs) := e _ _ h (fun _ z => nomatch z)
theorem Ex.seqT {K : PySem.W.Frag} {H H' : Hp} {a : Addr} {xs : List V} (e : Ex H H') (h : SqT K H a xs) : SqT K H' a xs := by
  rcases h with (z | ⟨o, z⟩) | z
  · exact .inl (.inl (e _ _ z (fun _ y => nomatch y)))
  · exact .inl (.inr ⟨o, e _ _ z (fun _ y => nomatch y)⟩)
  · exact .inr z
theorem Ex.seqL {K : PySem.W.Frag} {H H' : Hp} {a : Addr} {xs : List V} (e : Ex H H') (h : SqL K H a xs) : SqL K H' a xs := by
  rcases h with (z | ⟨o, z⟩) | z
  · exact .inl (.inl (e _ _ z (fun _ y => nomatch y)))
  · exact .inl (.inr ⟨o, e _ _ z (fun _ y => nomatch y)⟩)
  · exact .inr z
theorem Ex.ln {K : PySem.W.Frag} {H H' : Hp} {p : Addr} {a b m : Int} (e : Ex H H') (L : Ln K H p a b m) : Ln K H' p a b m := ⟨e.seqT L.at_, L.pos, L.sa, L.sb, L.sm⟩
theorem TabS.same {H H' : Hp} {P : Addr} {q : Str} (t : LamX.TabS H P q) (s : Same H H') : LamX.TabS H' P q := t.ext s
theorem Ex.trans {H H1 H2 : Hp} (e : Ex H H1) (k : Ex H1 H2) : Ex H H2 := fun b o h n => k b o (e b o h n) n
theorem Ex.refl (H : Hp) : Ex H H := fun _ _ h _ => h
/-! ### pairs told -/
theorem r_isTupP {K : PySem.W.Frag} {H : Hp} {Q : VK} {a : Addr} {xs : List V} (e : H a = some (.tup xs)) (h : Q (.bl true) H) : rIsi K [.ref a, .ty "tuple"] H Q := r_isi (.ty "tuple") (.base (.tup e)) (kit_ty (by decide +kernel)) h
theorem dp_nil {K : PySem.W.Frag} {H : Hp} {p : Addr} (h : H p = some (.lst [])) : Dp K H (.ref p) (.list []) := .lst (SqL.of h) .nil
theorem dp_P2 {K : PySem.W.Frag} {H : Hp} {p : Addr} {x y : Int} (h : SqT K H p [.int x, .int y]) : Dp K H (.ref p) (.tuple [.int x, .int y]) := .tup h (.cons (.int _) (.cons (.int _) .nil))
theorem shaped_P2 (x y : Int) : SeqAt.shaped (.tuple [.int x, .int y]) = true := by
  simp [SeqAt.shaped, PyData.canLay0, PyData.canLayAll0, PyData.depth, PyData.depthAll]
theorem shaped_nil : SeqAt.shaped (.list []) = true := by
  simp [SeqAt.shaped, PyData.canLay0, PyData.canLayAll0, PyData.depth, PyData.depthAll]
/-! ### ways that join -/
theorem r_cut {D : Ends} {σ : L2.St} {H : Hp} {t u : TS} (Mid : L2.St → Hp → Prop) (h1 : t { D with nx := Mid } σ H) (h2 : ∀ σ' H', Mid σ' H' → u D σ' H') : C8.tCut t u D σ H := ⟨Mid, h1, h2⟩
theorem r_cutS {D : Ends} {σ : L2.St} {H : Hp} {t u : TS} (Mid : Hp → Prop) (h1 : t { D with nx := fun σ' H' => σ' = σ ∧ Mid H' } σ H) (h2 : ∀ H', Mid H' → u D σ H') : C8.tCut t u D σ H := ⟨_, h1, fun _ H' ⟨e, m⟩ => e ▸ h2 H' m⟩
/-! ### points between lines: sums over stretches of whole numbers -/
theorem op_fdivS {X : Cx} : OpR X (binaryOp .FloorDiv) (rI (fun _ j => j ≠ 0 ∧ j.natAbs.log2 < 9000) fun i j => .int (i.fdiv j)) := opI fun _ _ _ _ _ _ _ hc q => floordiv_int hc.1 q (.inl (PyProof.noPylong_of_log2 hc.2))
abbrev Ln3 := Int × Int × Int
/-- the part of a line at a place -/
def prt (l : Ln3) (x : Int) : Int := (l.1 * x + l.2.1) / l.2.2
/-- a line is no higher than another one at a place, by g lower (both heights times both m) -/
def Hle (l o : Ln3) (g x : Int) : Prop := (l.1 * x + l.2.1) * o.2.2 + g ≤ (o.1 * x + o.2.1) * l.2.2
instance {l o : Ln3} {g x : Int} : Decidable (Hle l o g x) := inferInstanceAs (Decidable (_ ≤ _))
theorem hle_lin {l o : Ln3} {g x : Int} : Hle l o g x ↔ l.2.1 * o.2.2 - o.2.1 * l.2.2 + g ≤ (o.1 * l.2.2 - l.1 * o.2.2) * x := by
  unfold Hle
  have e1 : (l.1 * x + l.2.1) * o.2.2 + g = (l.2.1 * o.2.2 - o.2.1 * l.2.2 + g) + (l.1 * x * o.2.2 + o.2.1 * l.2.2) := by grind
  have e2 : (o.1 * x + o.2.1) * l.2.2 = (o.1 * l.2.2 - l.1 * o.2.2) * x + (l.1 * x * o.2.2 + o.2.1 * l.2.2) := by grind
  rw [e1, e2]
  omega
/-- what is kept of a stretch: the places where c * x is no less than d -/
def keptF (lo hi c d : Int) : Int × Int :=
  if c > 0 then ((if hi < (if -((-d) / c) > lo then -((-d) / c) else lo) then hi else (if -((-d) / c) > lo then -((-d) / c) else lo)), hi)
  else if c < 0 then (lo, (if lo > (if d.fdiv c + 1 < hi then d.fdiv c + 1 else hi) then lo else (if d.fdiv c + 1 < hi then d.fdiv c + 1 else hi)))
  else if d > 0 then (lo, lo) else (lo, hi)
theorem fdiv_neg_iff {c d x : Int} (hc : c < 0) : x < d.fdiv c + 1 ↔ d ≤ c * x := by
  have e : d.fdiv c = (-d) / (-c) := by
    rw [← Int.fdiv_eq_ediv_of_nonneg (-d) (show 0 ≤ -c by omega), Int.neg_fdiv_neg]
  rw [e]
  have h : x < (-d) / (-c) + 1 ↔ x ≤ (-d) / (-c) := by omega
  rw [h, Int.le_ediv_iff_mul_le (by omega), Int.mul_neg, Int.mul_comm x c]
  omega
theorem ceil_iff {c d x : Int} (hc : 0 < c) : -((-d) / c) ≤ x ↔ d ≤ c * x := by
  have h : -((-d) / c) ≤ x ↔ -x ≤ (-d) / c := by omega
  rw [h, Int.le_ediv_iff_mul_le hc, Int.neg_mul, Int.mul_comm x c]
  omega
theorem kept_ok {lo hi c d : Int} (h : lo ≤ hi) : lo ≤ (keptF lo hi c d).1 ∧ (keptF lo hi c d).1 ≤ (keptF lo hi c d).2 ∧ (keptF lo hi c d).2 ≤ hi ∧ ∀ x : Int, lo ≤ x → x < hi → (((keptF lo hi c d).1 ≤ x ∧ x < (keptF lo hi c d).2) ↔ d ≤ c * x) := by
  unfold keptF
  by_cases c1 : c > 0
  · rw [if_pos c1]
    dsimp only
    have hi1 := fun x => ceil_iff (d := d) (x := x) c1
    generalize -((-d) / c) = k at *
    refine ⟨?_, ?_, Int.le_refl _, fun x x0 x1 => ?_⟩
    · repeat' split
      all_goals omega
    · repeat' split
      all_goals omega
    · rw [← hi1 x]
      repeat' split
      all_goals omega
  · rw [if_neg c1]
    by_cases c2 : c < 0
    · rw [if_pos c2]
      dsimp only
      have hi1 := fun x => fdiv_neg_iff (d := d) (x := x) c2
      generalize d.fdiv c + 1 = k at *
      refine ⟨Int.le_refl _, ?_, ?_, fun x x0 x1 => ?_⟩
      · repeat' split
        all_goals omega
      · repeat' split
        all_goals omega
      · rw [← hi1 x]
        repeat' split
        all_goals omega
    · obtain rfl : c = 0 := by omega
      rw [if_neg c2]
      by_cases c3 : d > 0
      · rw [if_pos c3]
        refine ⟨Int.le_refl _, Int.le_refl _, h, fun x x0 x1 => ?_⟩
        rw [Int.zero_mul]
        dsimp only
        omega
      · rw [if_neg c3]
        refine ⟨Int.le_refl _, h, Int.le_refl _, fun x x0 x1 => ?_⟩
        rw [Int.zero_mul]
        dsimp only
        omega
/-- the sum over the whole numbers from lo on, ahead of hi -/
def sumZ (f : Int → Int) (lo hi : Int) : Int := sumF (fun i => f (lo + i)) (hi - lo).toNat
theorem sumZ_cut (f : Int → Int) {lo mid hi : Int} (h1 : lo ≤ mid) (h2 : mid ≤ hi) : sumZ f lo hi = sumZ f lo mid + sumZ f mid hi := by
  unfold sumZ
  obtain ⟨j, rfl⟩ : ∃ j : Nat, mid = lo + j := ⟨(mid - lo).toNat, by omega⟩
  obtain ⟨k, rfl⟩ : ∃ k : Nat, hi = lo + j + k := ⟨(hi - (lo + j)).toNat, by omega⟩
  have cut : ∀ (g : Nat → Int) (n k : Nat), sumF g (n + k) = sumF g n + sumF (fun x => g (n + x)) k := by
    intro g n k
    induction k with
    | zero => exact (Int.add_zero _).symm
    | succ k ih =>
      show sumF g (n + k) + g (n + k) = sumF g n + (sumF (fun x => g (n + x)) k + g (n + k))
      rw [ih]
      omega
  rw [show (lo + j + k - lo).toNat = j + k by omega, show (lo + (j : Int) - lo).toNat = j by omega, show (lo + (j : Int) + k - (lo + j)).toNat = k by omega, cut]
  congr 1
  refine sumF_congr fun x _ => ?_
  congr 1
  rw [Int.natCast_add]
  omega
theorem sumZ_congr {f g : Int → Int} {lo hi : Int} (h : ∀ x, lo ≤ x → x < hi → f x = g x) : sumZ f lo hi = sumZ g lo hi := sumF_congr fun i hi' => h _ (by omega) (by omega)
theorem sumZ_zero {f : Int → Int} {lo hi : Int} (h : ∀ x, lo ≤ x → x < hi → f x = 0) : sumZ f lo hi = 0 := by
  rw [sumZ_congr (g := fun _ => 0) h]
  exact sumF_zero _
/-- a part of a stretch alone -/
theorem sumZ_sub {f : Int → Int} {lo hi lo' hi' : Int} (h1 : lo ≤ lo') (h2 : lo' ≤ hi') (h3 : hi' ≤ hi) (p : Int → Prop) [DecidablePred p] (hp : ∀ x, lo ≤ x → x < hi → ((lo' ≤ x ∧ x < hi') ↔ p x)) : sumZ f lo' hi' = sumZ (fun x => if p x then f x else 0) lo hi := by
  rw [sumZ_cut (fun x => if p x then f x else 0) h1 (Int.le_trans h2 h3), sumZ_cut (fun x => if p x then f x else 0) h2 h3]
  rw [sumZ_zero (lo := lo) (hi := lo') fun x x0 x1 => if_neg fun z => by have := (hp x x0 (by omega)).mpr z; omega,
    sumZ_zero (lo := hi') (hi := hi) fun x x0 x1 => if_neg fun z => by have := (hp x (by omega) x1).mpr z; omega,
    sumZ_congr (lo := lo') (hi := hi') (g := f) fun x x0 x1 => if_pos ((hp x (by omega) (by omega)).mp ⟨x0, x1⟩)]
  omega
theorem sumZ_add (f g : Int → Int) (lo hi : Int) : sumZ (fun x => f x + g x) lo hi = sumZ f lo hi + sumZ g lo hi := sumF_add _ _ _
theorem sumZ_one {lo hi : Int} (h : lo ≤ hi) : sumZ (fun _ => 1) lo hi = hi - lo := by
  unfold sumZ
  rw [sumF_const]
  omega
/-- a line no higher has no greater part -/
theorem hle_prt {l o : Ln3} {x : Int} (hl : 0 < l.2.2) (ho : 0 < o.2.2) (h : Hle l o 0 x) : prt l x ≤ prt o x := by
  unfold prt
  unfold Hle at h
  rw [Int.le_ediv_iff_mul_le ho]
  have e := Int.mul_ediv_add_emod (l.1 * x + l.2.1) l.2.2
  have r0 := Int.emod_nonneg (l.1 * x + l.2.1) (b := l.2.2) (by omega)
  generalize (l.1 * x + l.2.1) / l.2.2 = q at *
  have h2 : l.2.2 * q ≤ l.1 * x + l.2.1 := by omega
  have h3 := Int.mul_le_mul_of_nonneg_right h2 (Int.le_of_lt ho)
  have h4 : l.2.2 * (q * o.2.2) ≤ l.2.2 * (o.1 * x + o.2.1) := by
    rw [Int.mul_comm l.2.2 (o.1 * x + o.2.1)]
    have e5 : l.2.2 * (q * o.2.2) = l.2.2 * q * o.2.2 := by grind
    rw [e5]
    omega
  exact Int.le_of_mul_le_mul_left h4 hl
theorem hle_less {l o : Ln3} {x : Int} : ¬ Hle l o 0 x → Hle o l 1 x := by
  unfold Hle
  omega
theorem hle_weak {l o : Ln3} {g x : Int} (hg : 0 ≤ g) (h : Hle l o g x) : Hle l o 0 x := by
  unfold Hle at *
  omega
theorem hle_trans {l o p : Ln3} {g x : Int} (hg : g = 0 ∨ g = 1) (hl : 0 < l.2.2) (ho : 0 < o.2.2) (hp : 0 < p.2.2) (h1 : Hle l o g x) (h2 : Hle o p 0 x) : Hle l p g x := by
  unfold Hle at *
  generalize l.1 * x + l.2.1 = hl' at *
  generalize o.1 * x + o.2.1 = ho' at *
  generalize p.1 * x + p.2.1 = hp' at *
  have a1 := Int.mul_le_mul_of_nonneg_right h1 (Int.le_of_lt hp)
  have a2 := Int.mul_le_mul_of_nonneg_right h2 (Int.le_of_lt hl)
  have e1 : (hl' * o.2.2 + g) * p.2.2 = o.2.2 * (hl' * p.2.2) + g * p.2.2 := by grind
  have e2 : (hp' * o.2.2) * l.2.2 = o.2.2 * (hp' * l.2.2) := by grind
  have e3 : ho' * l.2.2 * p.2.2 = (ho' * p.2.2 + 0) * l.2.2 := by grind
  have a3 : o.2.2 * (hl' * p.2.2) + g * p.2.2 ≤ o.2.2 * (hp' * l.2.2) := by omega
  rcases hg with rfl | rfl
  · have : hl' * p.2.2 ≤ hp' * l.2.2 := Int.le_of_mul_le_mul_left (by omega) ho
    omega
  · have : ¬ hp' * l.2.2 ≤ hl' * p.2.2 := fun z => by
      have := Int.mul_le_mul_of_nonneg_left z (Int.le_of_lt ho)
      omega
    omega
/-- the line with a number -/
def lnAt (ls : List Ln3) (i : Nat) : Ln3 := ls[i]?.getD (0, 0, 1)
/-- the line with the number k is the least one at x, of alike ones the first, of the first n -/
def Least (ls : List Ln3) (n k : Nat) (x : Int) : Prop := ∀ j : Nat, j < n → Hle (lnAt ls k) (lnAt ls j) (if j < k then 1 else 0) x
theorem lnAt_pos {ls : List Ln3} (h : ∀ l ∈ ls, 0 < l.2.2) (i : Nat) : 0 < (lnAt ls i).2.2 := by
  unfold lnAt
  cases e : ls[i]? with
  | none => exact (by decide : (0 : Int) < 1)
  | some l => exact h l (List.mem_of_getElem? e)
theorem hle_refl {l : Ln3} {x : Int} : Hle l l 0 x := by
  unfold Hle
  omega
theorem least_ex {ls : List Ln3} (h : ∀ l ∈ ls, 0 < l.2.2) (x : Int) : ∀ n : Nat, ∃ k : Nat, k ≤ n ∧ Least ls (n + 1) k x
  | 0 => ⟨0, Nat.le_refl _, fun j hj => by
    obtain rfl : j = 0 := by omega
    exact hle_refl⟩
  | n + 1 => by
    obtain ⟨k, hk, hl⟩ := least_ex h x n
    by_cases c : Hle (lnAt ls k) (lnAt ls (n + 1)) 0 x
    · refine ⟨k, by omega, fun j hj => ?_⟩
      by_cases hj2 : j < n + 1
      · exact hl j hj2
      · obtain rfl : j = n + 1 := by omega
        rw [if_neg (by omega)]
        exact c
    · refine ⟨n + 1, Nat.le_refl _, fun j hj => ?_⟩
      by_cases hj2 : j < n + 1
      · rw [if_pos hj2]
        refine hle_trans (.inr rfl) (lnAt_pos h _) (lnAt_pos h k) (lnAt_pos h j) (hle_less c) (hle_weak ?_ (hl j hj2))
        split <;> decide
      · obtain rfl : j = n + 1 := by omega
        rw [if_neg (by omega)]
        exact hle_refl
theorem least_one {ls : List Ln3} {n k k' : Nat} {x : Int} (hk : k < n) (hk' : k' < n) (h : Least ls n k x) (h' : Least ls n k' x) : k = k' := by
  have key : ∀ {p q : Nat}, p < n → q < n → Least ls n p x → Least ls n q x → ¬ p < q := fun {p q} hp hq h1 h2 z => by
    have a1 := h1 q hq
    have a2 := h2 p hp
    rw [if_neg (by omega)] at a1
    rw [if_pos z] at a2
    unfold Hle at a1 a2
    omega
  have := key hk hk' h h'
  have := key hk' hk h' h
  omega
/-- v is the least of the parts -/
def IsMin (ls : List Ln3) (x v : Int) : Prop := (∃ l ∈ ls, prt l x = v) ∧ ∀ l ∈ ls, v ≤ prt l x
theorem IsMin.uniq {ls : List Ln3} {x v w : Int} (h : IsMin ls x v) (k : IsMin ls x w) : v = w := by
  obtain ⟨⟨l, hl, e⟩, h2⟩ := h
  obtain ⟨⟨o, ho, f⟩, k2⟩ := k
  have := h2 o ho
  have := k2 l hl
  omega
theorem least_min {ls : List Ln3} (h : ∀ l ∈ ls, 0 < l.2.2) {k : Nat} {x : Int} (hk : k < ls.length) (hl : Least ls ls.length k x) : IsMin ls x (prt (lnAt ls k) x) := by
  have mem : ∀ i : Nat, i < ls.length → lnAt ls i ∈ ls := fun i hi => by
    unfold lnAt
    rw [List.getElem?_eq_getElem hi]
    exact List.getElem_mem hi
  refine ⟨⟨_, mem k hk, rfl⟩, fun l hm => ?_⟩
  obtain ⟨j, hj, rfl⟩ := List.getElem_of_mem hm
  have a1 := hl j hj
  have e : lnAt ls j = ls[j] := by
    unfold lnAt
    rw [List.getElem?_eq_getElem hj]
    rfl
  rw [← e]
  exact hle_prt (lnAt_pos h k) (lnAt_pos h j) (hle_weak (by split <;> decide) a1)
instance {ls : List Ln3} {n k : Nat} {x : Int} : Decidable (Least ls n k x) := inferInstanceAs (Decidable (∀ j : Nat, j < n → _))
theorem sumF_only (g : Nat → Int) (r : Nat) : ∀ m : Nat, r < m → sumF (fun x => if x = r then g x else 0) m = g r
  | 0, h => by omega
  | m + 1, h => by
    show sumF (fun x => if x = r then g x else 0) m + (if m = r then g m else 0) = g r
    by_cases hr : m = r
    · subst hr
      rw [if_pos rfl, sumF_congr (g := fun _ => 0) fun x hx => if_neg (by omega), sumF_zero]
      omega
    · rw [if_neg hr, sumF_only g r m (by omega)]
      omega
theorem least_sum {ls : List Ln3} (h : ∀ l ∈ ls, 0 < l.2.2) (hn : 0 < ls.length) (x : Int) : IsMin ls x (sumF (fun k => if Least ls ls.length k x then prt (lnAt ls k) x else 0) ls.length) := by
  obtain ⟨k, hk, hl⟩ := least_ex h x (ls.length - 1)
  rw [show ls.length - 1 + 1 = ls.length by omega] at hl
  have hk' : k < ls.length := by omega
  have e : sumF (fun j => if Least ls ls.length j x then prt (lnAt ls j) x else 0) ls.length = sumF (fun j => if j = k then prt (lnAt ls j) x else 0) ls.length := by
    refine sumF_congr fun j hj => ?_
    by_cases c : j = k
    · subst c
      rw [if_pos hl, if_pos rfl]
    · rw [if_neg c, if_neg fun z => c (least_one hj hk' z hl)]
  rw [e, sumF_only (fun j => prt (lnAt ls j) x) k _ hk']
  exact least_min h hk' hl
/-- the least of the parts, as the program sums it -/
def minP (ls : List Ln3) (x : Int) : Int := sumF (fun k => if Least ls ls.length k x then prt (lnAt ls k) x else 0) ls.length
theorem sum_minP (ls : List Ln3) (lo hi : Int) : sumF (fun k => sumZ (fun x => if Least ls ls.length k x then prt (lnAt ls k) x else 0) lo hi) ls.length = sumZ (minP ls) lo hi := by
  unfold sumZ minP
  rw [sumF_swap]
/-- upside down -/
def flip3 (l : Ln3) : Ln3 := (-l.1, -l.2.1, l.2.2)
/-- how many points there are at a place -/
def room (ab be : List Ln3) (x : Int) : Int := minP ab x + minP (be.map flip3) x + 1
theorem room_cross {l o : Ln3} {x : Int} (hl : 0 < l.2.2) (ho : 0 < o.2.2) : (Hle l o 0 x → 0 ≤ prt o x + prt (flip3 l) x + 1) ∧ (¬ Hle l o 0 x → prt o x + prt (flip3 l) x + 1 ≤ 0) := by
  unfold Hle prt flip3
  dsimp only
  have e1 := Int.mul_ediv_add_emod (o.1 * x + o.2.1) o.2.2
  have r0 := Int.emod_nonneg (o.1 * x + o.2.1) (b := o.2.2) (by omega)
  have r1 := Int.emod_lt_of_pos (o.1 * x + o.2.1) ho
  have ef : -l.1 * x + -l.2.1 = -(l.1 * x + l.2.1) := by grind
  rw [ef]
  have e2 := Int.mul_ediv_add_emod (-(l.1 * x + l.2.1)) l.2.2
  have s0 := Int.emod_nonneg (-(l.1 * x + l.2.1)) (b := l.2.2) (by omega)
  have s1 := Int.emod_lt_of_pos (-(l.1 * x + l.2.1)) hl
  generalize l.1 * x + l.2.1 = hl' at *
  generalize o.1 * x + o.2.1 = ho' at *
  generalize ho' / o.2.2 = q at *
  generalize ho' % o.2.2 = r at *
  generalize (-hl') / l.2.2 = q2 at *
  generalize (-hl') % l.2.2 = s at *
  have mp : 0 < l.2.2 * o.2.2 := Int.mul_pos hl ho
  have k1 : ho' * l.2.2 = l.2.2 * o.2.2 * q + r * l.2.2 := by
    rw [← e1]
    grind
  have k2 : hl' * o.2.2 = -(l.2.2 * o.2.2 * q2) - s * o.2.2 := by
    have : hl' = -(l.2.2 * q2 + s) := by omega
    rw [this]
    grind
  have b1 : r * l.2.2 < l.2.2 * o.2.2 := by
    rw [Int.mul_comm l.2.2 o.2.2]
    exact Int.mul_lt_mul_of_pos_right r1 hl
  have b2 : s * o.2.2 < l.2.2 * o.2.2 := Int.mul_lt_mul_of_pos_right s1 ho
  have b3 : 0 ≤ r * l.2.2 := Int.mul_nonneg r0 (by omega)
  have b4 : 0 ≤ s * o.2.2 := Int.mul_nonneg s0 (by omega)
  have dist : l.2.2 * o.2.2 * (q + q2) = l.2.2 * o.2.2 * q + l.2.2 * o.2.2 * q2 := Int.mul_add _ _ _
  constructor
  · intro h
    by_cases c : 0 ≤ q + q2 + 1
    · exact c
    · have := Int.mul_le_mul_of_nonneg_left (show q + q2 ≤ -2 by omega) (Int.le_of_lt mp)
      omega
  · intro h
    by_cases c : q + q2 + 1 ≤ 0
    · exact c
    · have := Int.mul_nonneg (Int.le_of_lt mp) (show 0 ≤ q + q2 by omega)
      omega
/-- what is left of a stretch: the places where p holds -/
def Pin (p : Int → Prop) (lo hi lo' hi' : Int) : Prop := lo ≤ lo' ∧ lo' ≤ hi' ∧ hi' ≤ hi ∧ ∀ x : Int, lo ≤ x → x < hi → ((lo' ≤ x ∧ x < hi') ↔ p x)
theorem Pin.start {p : Int → Prop} {lo hi : Int} (h : lo ≤ hi) (hp : ∀ x, p x) : Pin p lo hi lo hi := ⟨Int.le_refl _, h, Int.le_refl _, fun x x0 x1 => ⟨fun _ => hp x, fun _ => ⟨x0, x1⟩⟩⟩
theorem Pin.more {p r s : Int → Prop} {lo hi lo' hi' lo2 hi2 : Int} (h : Pin p lo hi lo' hi') (k : Pin r lo' hi' lo2 hi2) (hs : ∀ x, s x ↔ p x ∧ r x) : Pin s lo hi lo2 hi2 := by
  obtain ⟨a1, a2, a3, a4⟩ := h
  obtain ⟨b1, b2, b3, b4⟩ := k
  refine ⟨by omega, b2, by omega, fun x x0 x1 => ?_⟩
  rw [hs x, ← a4 x x0 x1]
  constructor
  · intro z
    have := (b4 x (by omega) (by omega)).mp z
    exact ⟨by omega, this⟩
  · rintro ⟨z1, z2⟩
    exact (b4 x z1.1 z1.2).mpr z2
theorem Pin.iff {p r : Int → Prop} {lo hi lo' hi' : Int} (h : Pin p lo hi lo' hi') (e : ∀ x, p x ↔ r x) : Pin r lo hi lo' hi' := ⟨h.1, h.2.1, h.2.2.1, fun x x0 x1 => (h.2.2.2 x x0 x1).trans (e x)⟩
/-- lines of the sizes that are asked -/
def Gd (ls : List Ln3) : Prop := ∀ l ∈ ls, 0 < l.2.2 ∧ Sz 400 l.1 ∧ Sz 900 l.2.1 ∧ Sz 400 l.2.2
def LsT (K : PySem.W.Frag) (H : Hp) (p : Addr) (ls : List Ln3) : Prop := ∃ vs : List V, SqT K H p vs ∧ R3 H vs ls
def LsL (K : PySem.W.Frag) (H : Hp) (p : Addr) (ls : List Ln3) : Prop := ∃ vs : List V, SqL K H p vs ∧ R3 H vs ls
theorem R3.same {H H' : Hp} {vs : List V} {ls : List Ln3} (r : R3 H vs ls) (s : Same H H') : R3 H' vs ls := r.more fun _ _ e => s _ _ e
theorem LsT.same {K : PySem.W.Frag} {H H' : Hp} {p : Addr} {ls : List Ln3} (h : LsT K H p ls) (s : Same H H') : LsT K H' p ls := by
  obtain ⟨vs, a, b⟩ := h
  exact ⟨vs, Same.seqT s a, b.same s⟩
theorem LsL.same {K : PySem.W.Frag} {H H' : Hp} {p : Addr} {ls : List Ln3} (h : LsL K H p ls) (s : Same H H') : LsL K H' p ls := by
  obtain ⟨vs, a, b⟩ := h
  exact ⟨vs, Same.seq s a, b.same s⟩
theorem take_iff {ls : List Ln3} {i : Nat} {l : Ln3} (h : ls[i]? = some l) {p : Ln3 → Prop} : (∀ o ∈ ls.take (i + 1), p o) ↔ (∀ o ∈ ls.take i, p o) ∧ p l := by
  rw [List.take_add_one, h]
  constructor
  · intro z
    exact ⟨fun o ho => z o (List.mem_append_left _ ho), z l (List.mem_append_right _ (by simp))⟩
  · rintro ⟨z1, z2⟩ o ho
    rcases List.mem_append.mp ho with ho | ho
    · exact z1 o ho
    · obtain rfl : o = l := by simpa using ho
      exact z2
theorem room_sign {ab be : List Ln3} (ga : Gd ab) (gb : Gd be) (na : 0 < ab.length) (nb : 0 < be.length) (x : Int) : ((∀ l ∈ be, ∀ o ∈ ab, Hle l o 0 x) → 0 ≤ room ab be x) ∧ (¬ (∀ l ∈ be, ∀ o ∈ ab, Hle l o 0 x) → room ab be x ≤ 0) := by
  have pa : ∀ l ∈ ab, 0 < l.2.2 := fun l hl => (ga l hl).1
  have pb : ∀ l ∈ be, 0 < l.2.2 := fun l hl => (gb l hl).1
  have pf : ∀ l ∈ be.map flip3, 0 < l.2.2 := fun l hl => by
    obtain ⟨o, ho, rfl⟩ := List.mem_map.mp hl
    exact pb o ho
  obtain ⟨⟨o, ho, eo⟩, ma⟩ := least_sum pa na x
  obtain ⟨⟨f, hf, ef⟩, mb⟩ := least_sum pf (by rw [List.length_map]; exact nb) x
  obtain ⟨l, hl, rfl⟩ := List.mem_map.mp hf
  have er : room ab be x = prt o x + prt (flip3 l) x + 1 := by
    unfold room minP
    rw [eo, ef]
  constructor
  · intro h
    rw [er]
    exact (room_cross (pb l hl) (pa o ho)).1 (h l hl o ho)
  · intro h
    have : ∃ l2 ∈ be, ∃ o2 ∈ ab, ¬ Hle l2 o2 0 x := by
      refine Classical.byContradiction fun z => h fun l2 h2 o2 h3 => Classical.byContradiction fun w => z ⟨l2, h2, o2, h3, w⟩
    obtain ⟨l2, h2, o2, h3, w⟩ := this
    have a1 := (room_cross (x := x) (pb l2 h2) (pa o2 h3)).2 w
    have a2 := ma o2 h3
    have a3 := mb (flip3 l2) (List.mem_map.mpr ⟨l2, h2, rfl⟩)
    rw [er]
    omega
theorem room_sum {ab be : List Ln3} (ga : Gd ab) (gb : Gd be) (na : 0 < ab.length) (nb : 0 < be.length) {low high lo hi : Int} (c1 : low ≤ lo) (c2 : lo ≤ hi) (c3 : hi ≤ high) (c4 : ∀ x : Int, low ≤ x → x < high → ((lo ≤ x ∧ x < hi) ↔ ∀ l ∈ be, ∀ o ∈ ab, Hle l o 0 x)) :
    sumZ (room ab be) lo hi = sumZ (fun x => if room ab be x > 0 then room ab be x else 0) low high := by
  rw [sumZ_cut (fun x => if room ab be x > 0 then room ab be x else 0) c1 (Int.le_trans c2 c3), sumZ_cut (fun x => if room ab be x > 0 then room ab be x else 0) c2 c3]
  have out : ∀ x, low ≤ x → x < high → ¬ (lo ≤ x ∧ x < hi) → (if room ab be x > 0 then room ab be x else 0) = 0 := fun x x0 x1 z => by
    have := (room_sign ga gb na nb x).2 fun w => z ((c4 x x0 x1).mpr w)
    rw [if_neg (by omega)]
  rw [sumZ_zero (lo := low) (hi := lo) fun x x0 x1 => out x x0 (by omega) (by omega), sumZ_zero (lo := hi) (hi := high) fun x x0 x1 => out x (by omega) x1 (by omega),
    sumZ_congr (lo := lo) (hi := hi) (f := fun x => if room ab be x > 0 then room ab be x else 0) (g := room ab be) fun x x0 x1 => by
      have := (room_sign ga gb na nb x).1 ((c4 x (by omega) (by omega)).mp ⟨x0, x1⟩)
      split <;> omega]
  omega
/-! ### a list or a tuple, walked by one rule -/
def SqK (k : Bool) (K : PySem.W.Frag) (H : Hp) (a : Addr) (xs : List V) : Prop := match k with
  | true => SqL K H a xs
  | false => SqT K H a xs
def ItK (k : Bool) (K : PySem.W.Frag) (a : Addr) : It := match k with
  | true => Itl K a
  | false => Itt K a
theorem SqK.same {k : Bool} {K : PySem.W.Frag} {H H' : Hp} {a : Addr} {xs : List V} (h : SqK k K H a xs) (s : Same H H') : SqK k K H' a xs := by
  cases k with
  | true => exact Same.seq s h
  | false => exact Same.seqT s h
def iSeq (K : PySem.W.Frag) (te : TE) : TI := fun σ H R => te σ H fun x H1 => ∃ (k : Bool) (a : Addr) (xs : List V), x = .ref a ∧ SqK k K H1 a xs ∧ R (ItK k K a) H1
theorem pi_seq {X : Cx} {tg e : Expr} {te : TE} (he : PE X e te) : PI X tg e (iSeq X.K te) := by
  constructor
  intro pins S σ H R I want
  refine thn (he.run pins S σ H _ I want) ?_
  rintro y S1 ⟨x, H1, I1, rel, k, a, xs, rfl, sq, q⟩
  obtain rfl : y = Value.ref a := rel
  have stay : ∀ o1 : Obj, Inv X pins σ H1 { S1 with heap := S1.heap.push o1 } := fun o1 => I1.kept (t' := S1.toks) fun b o z => Heap.get?_push_of_some _ z
  cases k with
  | true =>
    obtain ⟨its, _, pl, _⟩ := I1.list (show SqL X.K H1 a xs from sq)
    refine wpAny_pyIter_list pl.isList ⟨S1.heap.objs.size, [S1.heap.objs.size], _, _, H1, rfl, stay _, turn_list a _, ⟨_, Heap.get?_push_size _ rfl, rfl, rfl⟩, fun b hb => ?_, q⟩
    rw [List.mem_singleton.mp hb]
    exact I1.fpOk (Nat.le_refl S1.heap.objs.size) (I1.hok.fresh (Nat.le_refl S1.heap.objs.size))
  | false =>
    obtain ⟨its, _, pl, _⟩ := I1.tuple (show SqT X.K H1 a xs from sq)
    refine wpAny_pyIter_tuple (show S1.heap.IsTuple a its.toArray from pl) ⟨S1.heap.objs.size, [S1.heap.objs.size], _, _, H1, rfl, stay _, turn_tuple a _, ⟨_, Heap.get?_push_size _ rfl, rfl, rfl⟩, fun b hb => ?_, q⟩
    rw [List.mem_singleton.mp hb]
    exact I1.fpOk (Nat.le_refl S1.heap.objs.size) (I1.hok.fresh (Nat.le_refl S1.heap.objs.size))
theorem r_iSeq {K : PySem.W.Frag} {σ : L2.St} {H : Hp} {te : TE} {R : It → Hp → Prop} (h : te σ H fun x H1 => ∃ (k : Bool) (a : Addr) (xs : List V), x = .ref a ∧ SqK k K H1 a xs ∧ R (ItK k K a) H1) : iSeq K te σ H R := h
theorem loop_seq {K : PySem.W.Frag} {D : Ends} {σ : L2.St} {H : Hp} {t : TS} {k : Bool} {a : Addr} {xs : List V} {g : TG} (Pv : Nat → L2.St → Hp → Prop) (h0 : Pv 0 σ H) (hl : ∀ i σ H, i ≤ xs.length → Pv i σ H → SqK k K H a xs)
    (hs : ∀ i x σ H, xs[i]? = some x → Pv i σ H → g x σ H fun σ2 H2 => t { D with nx := Pv (i + 1), ct := Pv (i + 1), bk := D.nx } σ2 H2) (hd : ∀ σ H, Pv xs.length σ H → D.nx σ H) : LoopOk (ItK k K a) g t D σ H := by
  cases k with
  | true => exact for_list Pv h0 hl hs hd
  | false => exact for_tup Pv h0 hl hs hd
theorem lc_ok_seq {K : PySem.W.Frag} {σ : L2.St} {H : Hp} {te : TE} {tt : TT} {g : TG} {vs : List Nat} {D : Addr} {S : Hp → Prop} {k : Bool} {a : Addr} {xs : List V} (Pv : Nat → Hp → Prop) (h0 : Pv 0 (upd H D (.lst []))) (hl : ∀ i H, i ≤ xs.length → Pv i H → SqK k K H a xs)
    (hs : ∀ (i : Nat) x H, xs[i]? = some x → Pv i H → g x (wipe σ vs) H fun σ2 H2 => wipe σ2 vs = wipe σ vs ∧ tt σ2 H2 fun b H3 => if b = true then te σ2 H3 fun y H4 => Acc D (Pv (i + 1)) y H4 else Pv (i + 1) H3) (hd : ∀ H, Pv xs.length H → S H) : LcOk (ItK k K a) g tt te vs σ D S H := by
  cases k with
  | true => exact lc_list Pv h0 hl hs hd
  | false => exact lc_tup Pv h0 hl hs hd
/-- lines in a list or a tuple -/
def LsK (k : Bool) (K : PySem.W.Frag) (H : Hp) (p : Addr) (ls : List Ln3) : Prop := ∃ vs : List V, SqK k K H p vs ∧ R3 H vs ls
theorem LsK.same {k : Bool} {K : PySem.W.Frag} {H H' : Hp} {p : Addr} {ls : List Ln3} (h : LsK k K H p ls) (s : Same H H') : LsK k K H' p ls := by
  obtain ⟨vs, h1, h2⟩ := h
  exact ⟨vs, h1.same s, h2.same s⟩
theorem LsK.way {k : Bool} {K : PySem.W.Frag} {H : Hp} {p : Addr} {ls : List Ln3} (h : LsK k K H p ls) : LsL K H p ls ∨ LsT K H p ls := by
  obtain ⟨vs, h1, h2⟩ := h
  cases k with
  | true => exact .inl ⟨vs, h1, h2⟩
  | false => exact .inr ⟨vs, h1, h2⟩
/-! ### papers -/
/-- a row's count and line -/
abbrev QuadP := Int × Int × Int × Int
def own (t : QuadP) : Int := t.2.1 / t.2.2.2 * tri t.1 + t.2.2.1 / t.2.2.2 * t.1
def sumO : List QuadP → Int
  | [] => 0
  | t :: l => own t + sumO l
def tots : List QuadP → List (QuadP × Int)
  | [] => []
  | t :: l => (t, sumO (t :: l)) :: tots l
theorem tots_len : ∀ l : List QuadP, (tots l).length = l.length
  | [] => rfl
  | t :: l => congrArg Nat.succ (tots_len l)
theorem tots_drop : ∀ (l : List QuadP) (i : Nat), (tots l).drop i = tots (l.drop i)
  | l, 0 => rfl
  | [], i + 1 => rfl
  | t :: l, i + 1 => tots_drop l i
/-- the rows of a line and a count -/
inductive Pa : Int → Int → Int → Int → List QuadP → Prop where
  | last {a b m n : Int} (hm : 0 < m) (sa : Sz 1000 a) (sb : Sz 1000 b) (sm : Sz 1000 m) (hn : 0 ≤ n) (sn : Sz 1000 n) (hk : (a % m * n + b % m) / m = 0) : Pa a b m n [(n, a, b, m)]
  | step {a b m n : Int} {l : List QuadP} (hm : 0 < m) (sa : Sz 1000 a) (sb : Sz 1000 b) (sm : Sz 1000 m) (hn : 0 ≤ n) (sn : Sz 1000 n) (hk : (a % m * n + b % m) / m ≠ 0) (h : Pa m ((a % m * n + b % m) % m) (a % m) ((a % m * n + b % m) / m) l) : Pa a b m n ((n, a, b, m) :: l)
theorem turnP {a b m n : Int} (hm : 0 < m) (sm : Sz 1000 m) (hn : 0 ≤ n) (sn : Sz 1000 n) (hk : (a % m * n + b % m) / m ≠ 0) :
    0 < a % m ∧ a % m < m ∧ Sz 1000 (a % m) ∧ Sz 1000 ((a % m * n + b % m) % m) ∧ 0 ≤ (a % m * n + b % m) / m ∧ (a % m * n + b % m) / m ≤ n := by
  have a0 := Int.emod_nonneg a (b := m) (by omega)
  have a1 := Int.emod_lt_of_pos a hm
  have b0 := Int.emod_nonneg b (b := m) (by omega)
  have b1 := Int.emod_lt_of_pos b hm
  have sa2 : Sz 1000 (a % m) := sm.mod hm
  generalize a % m = a2 at *
  generalize b % m = b2 at *
  have h0 : 0 ≤ a2 * n := Int.mul_nonneg a0 hn
  refine ⟨?_, a1, sa2, sm.mod hm, Int.ediv_nonneg (by omega) (by omega), ?_⟩
  · rcases Int.lt_or_eq_of_le a0 with h | h
    · exact h
    · subst h
      rw [Int.zero_mul, Int.zero_add, Int.ediv_eq_zero_of_lt b0 b1] at hk
      exact absurd rfl hk
  · have : (a2 * n + b2) / m < n + 1 := by
      refine Int.ediv_lt_of_lt_mul hm ?_
      have : a2 * n ≤ m * n := Int.mul_le_mul_of_nonneg_right (by omega) hn
      rw [Int.add_mul, Int.one_mul, Int.mul_comm n]
      omega
    omega
theorem Pa.ex : ∀ (f : Nat) {a b m n : Int}, m.toNat ≤ f → 0 < m → Sz 1000 a → Sz 1000 b → Sz 1000 m → 0 ≤ n → Sz 1000 n → ∃ l, Pa a b m n l
  | 0, a, b, m, n, hf, hm, _, _, _, _, _ => absurd hm (by omega)
  | f + 1, a, b, m, n, hf, hm, sa, sb, sm, hn, sn => by
    by_cases hk : (a % m * n + b % m) / m = 0
    · exact ⟨_, .last hm sa sb sm hn sn hk⟩
    · obtain ⟨c0, c1, s1, s2, k0, k1⟩ := turnP (a := a) (b := b) hm sm hn sn hk
      obtain ⟨l, h⟩ := Pa.ex f (a := m) (b := (a % m * n + b % m) % m) (m := a % m) (n := (a % m * n + b % m) / m) (by omega) c0 sm s2 s1 k0 (sn.le k0 k1)
      exact ⟨_, .step hm sa sb sm hn sn hk h⟩
theorem Pa.of {K : PySem.W.Frag} {H : Hp} {p : Addr} {a b m n : Int} (L : Ln K H p a b m) (hn : 0 ≤ n) (sn : Sz 1000 n) : ∃ l, Pa a b m n l := Pa.ex _ (Nat.le_refl m.toNat) L.pos L.sa L.sb L.sm hn sn
theorem Pa.det {a b m n : Int} {l l' : List QuadP} (h : Pa a b m n l) (h' : Pa a b m n l') : l = l' := by
  induction h generalizing l' with
  | last hm sa sb sm hn sn hk =>
    cases h' with
    | last _ _ _ _ _ _ _ => rfl
    | step _ _ _ _ _ _ hk' _ => exact absurd hk hk'
  | step hm sa sb sm hn sn hk h ih =>
    cases h' with
    | last _ _ _ _ _ _ hk' => exact absurd hk' hk
    | step _ _ _ _ _ _ _ h2 => rw [ih h2]
theorem Pa.sum {a b m n : Int} {l : List QuadP} (h : Pa a b m n l) : sumO l = sumP a b m n.toNat := by
  induction h with
  | @last a b m n hm sa sb sm hn sn hk =>
    have e1 := sum_laid (a := a) (b := b) hm n.toNat
    have nn : ((n.toNat : Nat) : Int) = n := Int.toNat_of_nonneg hn
    have f1 := sum_flat (b := b % m) (Int.emod_nonneg a (by omega)) (Int.emod_lt_of_pos a hm) (Int.emod_nonneg b (by omega)) n.toNat (by rw [nn]; exact hk)
    show own (n, a, b, m) + 0 = _
    rw [e1, f1, nn]
    rfl
  | @step a b m n l hm sa sb sm hn sn hk h ih =>
    have e1 := sum_laid (a := a) (b := b) hm n.toNat
    have nn : ((n.toNat : Nat) : Int) = n := Int.toNat_of_nonneg hn
    obtain ⟨c0, c1, s1, s2, k0, k1⟩ := turnP (a := a) (b := b) hm sm hn sn hk
    have f1 := sum_turned (Int.emod_nonneg a (b := m) (by omega)) (Int.emod_lt_of_pos a hm) (Int.emod_nonneg b (b := m) (by omega)) (Int.emod_lt_of_pos b hm) n.toNat (by rw [nn]; omega)
    show own (n, a, b, m) + sumO l = _
    rw [e1, f1, ih, nn]
    rfl
theorem Pa.pos {a b m n : Int} {l : List QuadP} (h : Pa a b m n l) : 0 < m ∧ Sz 1000 a ∧ Sz 1000 b ∧ Sz 1000 m ∧ 0 ≤ n ∧ Sz 1000 n := by
  cases h with
  | last hm sa sb sm hn sn hk => exact ⟨hm, sa, sb, sm, hn, sn⟩
  | step hm sa sb sm hn sn hk h => exact ⟨hm, sa, sb, sm, hn, sn⟩
/-- each end of a paper is the paper of its first row -/
theorem Pa.drop {a b m n : Int} {l : List QuadP} (h : Pa a b m n l) : ∀ (i : Nat) (t : QuadP), l[i]? = some t → Pa t.2.1 t.2.2.1 t.2.2.2 t.1 (l.drop i) := by
  induction h with
  | last hm sa sb sm hn sn hk =>
    intro i t ht
    match i with
    | 0 =>
      cases ht
      exact .last hm sa sb sm hn sn hk
    | i + 1 => cases ht
  | step hm sa sb sm hn sn hk h ih =>
    intro i t ht
    match i with
    | 0 =>
      cases ht
      exact .step hm sa sb sm hn sn hk h
    | i + 1 => exact ih i t ht
theorem Pa.few {a b m n : Int} {l : List QuadP} (h : Pa a b m n l) : ∀ e : Nat, m < a → a * m < 2 ^ e → l.length ≤ e + 1 := by
  induction h with
  | last hm sa sb sm hn sn hk =>
    intro e _ _
    show 1 ≤ e + 1
    omega
  | @step a b m n l hm sa sb sm hn sn hk h ih =>
    intro e hma he
    obtain ⟨c0, c1, _⟩ := turnP hm sm hn sn hk
    have hd := Int.mul_ediv_add_emod a m
    have hq : 1 ≤ a / m := Int.le_ediv_of_mul_le hm (by omega)
    have hq2 : m * 1 ≤ m * (a / m) := Int.mul_le_mul_of_nonneg_left hq (by omega)
    have h2 : 2 * (a % m) ≤ a := by omega
    have h3 : 2 * (m * (a % m)) ≤ a * m := by
      have := Int.mul_le_mul_of_nonneg_left h2 (show 0 ≤ m by omega)
      rw [Int.mul_comm a m]
      grind
    match e with
    | 0 =>
      have : 0 < m * (a % m) := Int.mul_pos hm c0
      have he : a * m < 1 := he
      omega
    | e + 1 =>
      have he : a * m < 2 ^ e * 2 := he
      have := ih e c1 (by omega)
      show l.length + 1 ≤ e + 1 + 1
      omega
theorem Pa.few2 {a b m n : Int} {l : List QuadP} (h : Pa a b m n l) : l.length ≤ 5000 := by
  cases h with
  | last hm sa sb sm hn sn hk =>
    show 1 ≤ 5000
    omega
  | @step a b m n l hm sa sb sm hn sn hk h =>
    obtain ⟨c0, c1, s1, _⟩ := turnP hm sm hn sn hk
    have hs : Sz 2000 (m * (a % m)) := sm.mul s1
    have hp : 0 < m * (a % m) := Int.mul_pos hm c0
    have := h.few 2000 c1 (by unfold Sz at hs; omega)
    show l.length + 1 ≤ 5000
    omega
theorem Pa.ne {a b m n : Int} {l : List QuadP} (h : Pa a b m n l) : ∃ l', l = (n, a, b, m) :: l' := by
  cases h with
  | last hm sa sb sm hn sn hk => exact ⟨_, rfl⟩
  | step hm sa sb sm hn sn hk h => exact ⟨_, rfl⟩
/-! ### rows in the heap -/
/-- what is no list stays -/
def Tk (H H' : Hp) : Prop := ∀ q o, H q = some o → (∀ ys, o ≠ .lst ys) → H' q = some o
theorem Tk.of {H H' : Hp} (s : Same H H') : Tk H H' := fun q o e _ => s q o e
theorem Tk.but {H H1 : Hp} {p : Addr} {ys : List V} (hp : H p = some (.lst ys)) (b : But p H H1) : Tk H H1 := fun q o e n => b q o (by
  rintro rfl
  rw [hp] at e
  exact n ys (Option.some.inj e).symm) e
theorem Tk.trans {H H1 H2 : Hp} (h : Tk H H1) (k : Tk H1 H2) : Tk H H2 := fun q o e n => k q o (h q o e n) n
theorem Tk.seqT {K : PySem.W.Frag} {H H' : Hp} {a : Addr} {xs : List V} (k : Tk H H') (h : SqT K H a xs) : SqT K H' a xs := by
  rcases h with (h | ⟨o, h⟩) | h
  · exact .inl (.inl (k _ _ h (fun _ z => nomatch z)))
  · exact .inl (.inr ⟨o, k _ _ h (fun _ z => nomatch z)⟩)
  · exact .inr h
theorem Tk.tup {H H' : Hp} {a : Addr} {xs : List V} (k : Tk H H') (h : H a = some (.tup xs)) : H' a = some (.tup xs) := k _ _ h (fun _ z => nomatch z)
theorem Tk.ln {K : PySem.W.Frag} {H H' : Hp} {p : Addr} {a b m : Int} (k : Tk H H') (L : Ln K H p a b m) : Ln K H' p a b m := ⟨k.seqT L.at_, L.pos, L.sa, L.sb, L.sm⟩
def RowAt (K : PySem.W.Frag) (H : Hp) (v : V) (t : QuadP × Int) : Prop := ∃ p pl : Addr, v = .ref p ∧ H p = some (.tup [.int t.1.1, .ref pl, .int t.2]) ∧ SqT K H pl [.int t.1.2.1, .int t.1.2.2.1, .int t.1.2.2.2]
theorem RowAt.more {K : PySem.W.Frag} {H H' : Hp} {v : V} {t : QuadP × Int} (k : Tk H H') (h : RowAt K H v t) : RowAt K H' v t := by
  obtain ⟨p, pl, e, e1, e2⟩ := h
  exact ⟨p, pl, e, k.tup e1, k.seqT e2⟩
def PRw (K : PySem.W.Frag) (H : Hp) : List V → List (QuadP × Int) → Prop
  | [], [] => True
  | v :: vs, t :: ts => RowAt K H v t ∧ PRw K H vs ts
  | _, _ => False
section
variable {K : PySem.W.Frag} {H H' : Hp}
theorem PRw.more (k : Tk H H') : ∀ {vs : List V} {ts : List (QuadP × Int)}, PRw K H vs ts → PRw K H' vs ts
  | [], [], _ => trivial
  | v :: vs, t :: ts, ⟨h, r⟩ => ⟨h.more k, PRw.more k r⟩
theorem PRw.len : ∀ {vs : List V} {ts : List (QuadP × Int)}, PRw K H vs ts → vs.length = ts.length
  | [], [], _ => rfl
  | v :: vs, t :: ts, ⟨_, r⟩ => congrArg Nat.succ r.len
theorem PRw.app2 : ∀ {vs ws : List V} {ts us : List (QuadP × Int)}, PRw K H vs ts → PRw K H ws us → PRw K H (vs ++ ws) (ts ++ us)
  | [], ws, [], us, _, h => h
  | v :: vs, ws, t :: ts, us, ⟨e, r⟩, h => ⟨e, PRw.app2 r h⟩
theorem PRw.app {v : V} {t : QuadP × Int} (g : RowAt K H v t) {vs : List V} {ts : List (QuadP × Int)} (h : PRw K H vs ts) : PRw K H (vs ++ [v]) (ts ++ [t]) := h.app2 ⟨g, trivial⟩
theorem PRw.rev : ∀ {vs : List V} {ts : List (QuadP × Int)}, PRw K H vs ts → PRw K H vs.reverse ts.reverse
  | [], [], _ => trivial
  | v :: vs, t :: ts, ⟨e, r⟩ => by
    rw [List.reverse_cons, List.reverse_cons]
    exact r.rev.app e
theorem PRw.get : ∀ {vs : List V} {ts : List (QuadP × Int)} (_ : PRw K H vs ts) {i : Nat} {v : V}, vs[i]? = some v → ∃ t, ts[i]? = some t ∧ RowAt K H v t
  | [], [], _, i, v, h => nomatch h
  | w :: vs, t :: ts, ⟨e, r⟩, 0, v, h => ⟨t, rfl, by rw [← Option.some.inj h]; exact e⟩
  | w :: vs, t :: ts, ⟨_, r⟩, i + 1, v, h => PRw.get r (i := i) h
theorem PRw.get2 : ∀ {vs : List V} {ts : List (QuadP × Int)} (_ : PRw K H vs ts) {i : Nat} {t : QuadP × Int}, ts[i]? = some t → ∃ v, vs[i]? = some v ∧ RowAt K H v t
  | [], [], _, i, v, h => nomatch h
  | w :: vs, t :: ts, ⟨e, r⟩, 0, v, h => ⟨w, rfl, by rw [← Option.some.inj h]; exact e⟩
  | w :: vs, t :: ts, ⟨_, r⟩, i + 1, v, h => PRw.get2 r (i := i) h
theorem PRw.drop : ∀ {vs : List V} {ts : List (QuadP × Int)} (_ : PRw K H vs ts) (i : Nat), PRw K H (vs.drop i) (ts.drop i)
  | vs, ts, h, 0 => h
  | [], [], _, i + 1 => trivial
  | w :: vs, t :: ts, ⟨_, r⟩, i + 1 => r.drop i
def rowD (t : QuadP × Int) : PyData := .tuple [.int t.1.1, .tuple [.int t.1.2.1, .int t.1.2.2.1, .int t.1.2.2.2], .int t.2]
theorem RowAt.dp {v : V} {t : QuadP × Int} (h : RowAt K H v t) : Dp K H v (rowD t) := by
  obtain ⟨p, pl, rfl, e1, e2⟩ := h
  exact .tup (.inl (.inl e1)) (.cons (.int _) (.cons (.tup e2 (.cons (.int _) (.cons (.int _) (.cons (.int _) .nil)))) (.cons (.int _) .nil)))
theorem PRw.dp : ∀ {vs : List V} {ts : List (QuadP × Int)}, PRw K H vs ts → DpAll K H vs (ts.map rowD)
  | [], [], _ => .nil
  | v :: vs, t :: ts, ⟨e, r⟩ => .cons e.dp r.dp
end
theorem lay_rows : ∀ ts : List (QuadP × Int), PyData.canLayAll0 (ts.map rowD) = true ∧ PyData.depthAll (ts.map rowD) ≤ 10
  | [] => ⟨by simp [PyData.canLayAll0], by simp [PyData.depthAll]⟩
  | r :: rs => by
    obtain ⟨h1, h2⟩ := lay_rows rs
    refine ⟨?_, ?_⟩
    · simp [PyData.canLayAll0, PyData.canLay0, rowD]
      exact h1
    · simp [PyData.depthAll, PyData.depth, rowD]
      omega
theorem shaped_rows (ts : List (QuadP × Int)) : SeqAt.shaped (.tuple (ts.map rowD)) = true := by
  obtain ⟨h1, h2⟩ := lay_rows ts
  simp [SeqAt.shaped, PyData.canLay0, PyData.depth]
  exact ⟨h1, by omega⟩
theorem r_revQ {K : PySem.W.Frag} {σ : L2.St} {H : Hp} {Q : VK} {te : TE} (h : te σ H fun x H1 => ∃ a xs, x = .ref a ∧ SqL K H1 a xs ∧ NewQ xs.reverse H1 Q) : tRevL K te σ H Q := h
theorem r_break {D : Ends} {σ : L2.St} {H : Hp} (h : D.bk σ H) : tBreak D σ H := h
theorem r_appP {p : Addr} {xs : List V} {v : V} {H : Hp} {Q : VK} (hp : H p = some (.lst xs)) (l : xs.length < 10000) (h : ∀ H1, H1 p = some (.lst (xs ++ [v])) → But p H H1 → Q .non H1) : rAppend (.ref p) [v] H Q :=
  ⟨p, xs, v, rfl, rfl, hp, Nat.lt_trans l (by decide), h _ upd_same fun b o n e => by rw [upd_ne n]; exact e⟩
/-- a list that is new since H0 and grows -/
theorem same_butP {H0 H H1 : Hp} {p : Addr} (s : Same H0 H) (n : H0 p = none) (b : But p H H1) : Same H0 H1 := fun c o e => b c o (by
  rintro rfl
  rw [n] at e
  cases e) (s c o e)
theorem drop_atP {α : Type} {l : List α} {i : Nat} {t : α} (h : l[i]? = some t) : l.drop i = t :: l.drop (i + 1) := by
  have hi : i < l.length := (List.getElem?_eq_some_iff.mp h).1
  rw [List.drop_eq_getElem_cons hi, (List.getElem?_eq_some_iff.mp h).2]
theorem r_isTup {K : PySem.W.Frag} {H : Hp} {Q : VK} {a : Addr} {xs : List V} (e : H a = some (.tup xs)) (h : Q (.bl true) H) : rIsi K [.ref a, .ty "tuple"] H Q := r_isi (.ty "tuple") (.base (.tup e)) (kit_ty (by decide +kernel)) h
theorem loop_tup {K : PySem.W.Frag} {D : Ends} {σ : L2.St} {H : Hp} {t : TS} {a : Addr} {xs : List V} {g : TG} (Pv : Nat → L2.St → Hp → Prop) (h0 : Pv 0 σ H) (hl : ∀ i σ H, i ≤ xs.length → Pv i σ H → SqT K H a xs)
    (hs : ∀ i x σ H, xs[i]? = some x → Pv i σ H → g x σ H fun σ2 H2 => t { D with nx := Pv (i + 1), ct := Pv (i + 1), bk := D.nx } σ2 H2) (hd : ∀ σ H, Pv xs.length σ H → D.nx σ H) : LoopOk (Itt K a) g t D σ H := for_tup Pv h0 hl hs hd
theorem r_catT {K : PySem.W.Frag} {a b : Addr} {xs ys : List V} {H : Hp} {Q : VK} (ha : SqT K H a xs) (hb : SqT K H b ys) (hx : xs ≠ []) (hy : ys ≠ []) (l : xs.length + ys.length ≤ 1000) (h : ∀ p H1, H p = none → Same H H1 → H1 p = some (.tup (xs ++ ys)) → Q (.ref p) H1) : rCatT K (.ref a) (.ref b) H Q :=
  ⟨a, b, xs, ys, rfl, rfl, ha, hb, hx, Nat.le_of_lt (small1000 l), fun z => absurd z hy, fun _ => r_newT h⟩
theorem sumF_range (f : Nat → Int) : ∀ n : Nat, ((List.range n).map f).sum = sumF f n
  | 0 => rfl
  | n + 1 => by
    rw [List.range_succ, List.map_append, List.sum_append, sumF_range f n]
    show _ + (f n + 0) = sumF f n + f n
    omega
def partsL (a b m : Int) (n : Nat) : List Int := (List.range n).map fun (x : Nat) => (a * (x : Int) + b) / m
theorem partsL_succ (a b m : Int) (n : Nat) : partsL a b m (n + 1) = partsL a b m n ++ [(a * (n : Int) + b) / m] := by
  unfold partsL
  rw [List.range_succ, List.map_append]
  rfl
theorem partsL_sum (a b m : Int) (n : Nat) : (partsL a b m n).sum = sumP a b m n := sumF_range _ n
theorem partsL_len (a b m : Int) (n : Nat) : (partsL a b m n).length = n := by
  unfold partsL
  rw [List.length_map, List.length_range]
/-! ### zip of a list and a text -/
def ItzS (K : PySem.W.Frag) (a : Addr) (x : Str) : It where
  go := fun i H => ∃ (xs : List V) (y : V), SqL K H a xs ∧ xs[i]? = some y ∧ i < x.cps.size
  yld := fun i H v G => ∃ (q : Addr) (y : V) (c : Nat), v = .ref q ∧ H q = none ∧ G = upd H q (.tup [y, .str ⟨#[c]⟩]) ∧ (∀ xs, SqL K H a xs → xs[i]? = some y) ∧ x.cps[i]? = some c
  stop := fun i H => ∃ xs : List V, SqL K H a xs ∧ i ≤ xs.length ∧ i ≤ x.cps.size ∧ (i = xs.length ∨ i = x.cps.size)
theorem turn_zipS {P : Program} {w : World} {K : PySem.W.Frag} {elts : List Expr} {kk : Nat} {tpos : Pos} {a z TI TO i1 i2 : Addr} {x : Str} {t : Tok} (D : ZipSep2 z TI TO i1 i2 [i1, a] [i2]) (ne1 : a ≠ i1) :
    Turn P w K (.Tuple elts kk tpos) (ItzS K a x) [z, TI, TO, i1, i2] z (fun i h => IsZip h z TI TO .none ∧ IsTupOf2 h TI (.ref i1) (.ref i2) ∧ (∃ u v, IsTupOf2 h TO u v) ∧ h.IsListIter i1 a i ∧ h.IsStrIter i2 (strIterType x) x t i) where
  mem := by simp
  obj := by
    rintro i h ⟨hz, hTI, ⟨u, v, hTO⟩, ⟨o1, e1, _, d1⟩, h2⟩ c hc
    rcases (show c = z ∨ c = TI ∨ c = TO ∨ c = i1 ∨ c = i2 by simpa using hc) with rfl | rfl | rfl | rfl | rfl
    · exact ⟨_, hz, fun v q => nomatch q⟩
    · exact ⟨_, hTI, fun v q => nomatch q⟩
    · exact ⟨_, hTO, fun v q => nomatch q⟩
    · exact ⟨o1, e1, fun v q => by rw [d1] at q; cases q⟩
    · obtain ⟨o2, e2, _, d2⟩ := h2
      exact ⟨o2, e2, fun v q => by rw [d2] at q; cases q⟩
  keep := by
    rintro i h h2 ⟨hz, hTI, ⟨u, v, hTO⟩, h1, ⟨o2, e2, r2⟩⟩ k
    exact ⟨k z (by simp) _ hz, k TI (by simp) _ hTI, ⟨u, v, k TO (by simp) _ hTO⟩, h1.at fun o q => k i1 (by simp) o q, ⟨o2, k i2 (by simp) _ e2, r2⟩⟩
  item := by
    intro X hP hw hK hc i pins S σ H E I hf st hg
    subst hP hw hK
    obtain ⟨hz, hTI, ⟨u0, v0, hTO⟩, h1, h2⟩ := st
    obtain ⟨xs, y, sq, hy, hlt2⟩ := hg
    obtain ⟨its, rv, pl, _⟩ := I.list sq
    obtain ⟨u, hu, ru⟩ := rv.get hy
    have ltz : z < S.heap.objs.size := Heap.lt_size hz
    have hlt1 : i < its.toArray.size := by
      have := (List.getElem?_eq_some_iff.mp hu).1
      simpa using this
    refine wpAny_pyNext_zipD2_item D (Draws.list (A := X.A.in1) (show X.A.in1.handled = none from I.ok.hd hc) i1 a ne1 its.toArray) (Draws.text (A := X.A.in1) (show X.A.in1.handled = none from I.ok.hd hc) i2 x t) hz hTI hTO ⟨h1, pl.isList⟩ h2 hlt1 hlt2 fun w1 w2 h' tk p1 p2 z' TO' st1 st2 hT _ hk => ?_
    obtain rfl : w1 = u := by
      have e : its.toArray[i]? = some u := by simpa using hu
      rw [e] at p1
      exact (Option.some.inj p1).symm
    obtain ⟨c, tc, hcp, rfl⟩ := p2
    refine ⟨_, rfl, wpAny_letOwnedTupleGo_zip (s := { S with heap := h', toks := tk }) z' fun h'' z'' sb => ?_⟩
    have hT2 : h''.get? S.heap.objs.size = some { cls := .type "tuple", data := .seq #[w1, .str ⟨#[c]⟩ tc] } := (sb.2 _ (Nat.ne_of_gt ltz)).trans hT
    have okN : ObjOk X.prog X.w (upd H S.heap.objs.size (.tup [y, .str ⟨#[c]⟩])) h'' S.heap.objs.size (.tup [y, .str ⟨#[c]⟩]) := by
      refine ⟨?_, [w1, .str ⟨#[c]⟩ tc], .cons ru (.cons ⟨tc, rfl⟩ .nil), ⟨_, hT2, rfl, _, rfl⟩⟩
      show 2 ≤ sizeLine
      decide
    have I3 : Inv X pins σ (upd H S.heap.objs.size (.tup [y, .str ⟨#[c]⟩])) { S with heap := h'', toks := tk } := by
      refine I.turnedNew (ch := [z, TI, TO, i1, i2]) (fun b ob hb e => ?_) hf (Nat.le_refl _) okN
      have n1 : b ≠ z := fun w => hb (by simp [w])
      have n2 : b ≠ TO := fun w => hb (by simp [w])
      have n3 : b ≠ i1 := fun w => hb (by simp [w])
      have n4 : b ≠ i2 := fun w => hb (by simp [w])
      exact (sb.2 b n1).trans (hk b ob n1 n2 n3 n4 e)
    refine ⟨.ref S.heap.objs.size, _, I3, rfl, ⟨_, y, c, rfl, I.hok.fresh (Nat.le_refl _), rfl, fun ys hys => ?_, hcp⟩, ⟨z'', ?_, ⟨w1, .str ⟨#[c]⟩ tc, ?_⟩, ?_, ?_⟩, fun b hb => ?_⟩
    · rw [I.list_inj hys sq]
      exact hy
    · exact (sb.2 _ D.TIz).trans (hk _ _ D.TIz D.TITO D.TIi1 D.TIi2 hTI)
    · exact (sb.2 _ D.TOz).trans TO'
    · exact st1.1.at fun o q => (sb.2 _ (Ne.symm D.zi1)).trans q
    · obtain ⟨o2, e2, r2⟩ := st2
      exact ⟨o2, (sb.2 _ (Ne.symm D.zi2)).trans e2, r2⟩
    · have hlt : b < S.heap.objs.size := by
        rcases (show b = z ∨ b = TI ∨ b = TO ∨ b = i1 ∨ b = i2 by simpa using hb) with rfl | rfl | rfl | rfl | rfl
        · exact ltz
        · exact Heap.lt_size hTI
        · exact Heap.lt_size hTO
        · obtain ⟨_, e1, _⟩ := h1
          exact Heap.lt_size e1
        · obtain ⟨_, e2, _⟩ := h2
          exact Heap.lt_size e2
      rw [upd_ne (Nat.ne_of_lt hlt)]
      exact (hf b hb).1
  done := by
    intro X hP hw hK hc i pins S σ H E I hf st hg
    subst hP hw hK
    obtain ⟨hz, hTI, ⟨u0, v0, hTO⟩, h1, h2⟩ := st
    obtain ⟨xs, sq, le1, le2, hend⟩ := hg
    obtain ⟨its, rv, pl, _⟩ := I.list sq
    have ln : its.toArray.size = xs.length := by
      have e := rv.length
      simp only [List.size_toArray]
      omega
    refine wpAny_pyNext_zipD2_end D (Draws.list (A := X.A.in1) (show X.A.in1.handled = none from I.ok.hd hc) i1 a ne1 its.toArray) (Draws.text (A := X.A.in1) (show X.A.in1.handled = none from I.ok.hd hc) i2 x t) hz hTI hTO ⟨h1, pl.isList⟩ h2 (by omega) le2 (by omega) fun h' tk hk => ⟨rfl, ?_⟩
    exact I.turnedL (t' := tk) (ch := [z, TI, TO, i1, i2]) (fun c o hb q => hk c o (fun q' => hb (by simp [q'])) (fun q' => hb (by simp [q'])) (fun q' => hb (by simp [q'])) (fun q' => hb (by simp [q'])) q) hf
  self := fun A i S Q E st h => wpAny_pyIter_zip st.1 h
theorem zip_sep (n a : Nat) (h : a < n) : ZipSep2 (n + 4) (n + 2) (n + 3) n (n + 1) [n, a] [n + 1] where
  TIz := fun e => absurd (show (n + 2 : Nat) = n + 4 from e) (by omega)
  TOz := fun e => absurd (show (n + 3 : Nat) = n + 4 from e) (by omega)
  TITO := fun e => absurd (show (n + 2 : Nat) = n + 3 from e) (by omega)
  TIi1 := fun e => absurd (show (n + 2 : Nat) = n from e) (by omega)
  mem1 := List.mem_cons_self
  zf1 := fun e => by
    rcases List.mem_cons.mp e with e | e
    · exact absurd (show (n + 4 : Nat) = n from e) (by omega)
    · exact absurd (show (n + 4 : Nat) = a from List.mem_singleton.mp e) (by omega)
  Tf1 := fun e => by
    rcases List.mem_cons.mp e with e | e
    · exact absurd (show (n + 3 : Nat) = n from e) (by omega)
    · exact absurd (show (n + 3 : Nat) = a from List.mem_singleton.mp e) (by omega)
  TIi2 := fun e => absurd (show (n + 2 : Nat) = n + 1 from e) (by omega)
  mem2 := List.mem_cons_self
  zf2 := fun e => absurd (show (n + 4 : Nat) = n + 1 from List.mem_singleton.mp e) (by omega)
  Tf2 := fun e => absurd (show (n + 3 : Nat) = n + 1 from List.mem_singleton.mp e) (by omega)
  sep1_2 := fun e => absurd (show (n : Nat) = n + 1 from List.mem_singleton.mp e) (by omega)
  sep2_1 := fun e => by
    rcases List.mem_cons.mp e with e | e
    · exact absurd (show (n + 1 : Nat) = n from e) (by omega)
    · exact absurd (show (n + 1 : Nat) = a from List.mem_singleton.mp e) (by omega)
def iZipS (K : PySem.W.Frag) (ta : TA) : TI := fun σ H R => ta σ H fun vs G => ∃ (a : Addr) (xs : List V) (x : Str), vs = [.ref a, .str x] ∧ SqL K G a xs ∧ R (ItzS K a x) G
theorem pi_zipLS {X : Cx} {e e2 : Expr} {ta : TA} {pn pc pt : Pos} {elts : List Expr} {kk : Nat} (hg : Gl X "zip") (hm : X.mg "zip" = none) (ha : PA X [e, e2] ta)
    (hs : starEach [e, e2] X.env = (false, eval e X.env) :: starEach [e2] X.env := by rfl) (hpl : (backTo pc (starEach [e2] X.env)).any (·.1) = false := by rfl) : PI X (.Tuple elts kk pt) (.Call (.Name "zip" pn) [e, e2] [] pc) (iZipS X.K ta) := by
  constructor
  intro pins S σ H R I h
  refine Call_ (ld_blt I hg hm PyProof.Rows.boot_zip (PyProof.Rows.callWith_type1 (thn (ha.run pc pins S σ H _ I h) fun us S1 hh => ?_) hs hpl))
  obtain ⟨vs, G, I1, rel, a, xs, x, ev, sq, hR⟩ := hh
  subst ev
  match us, rel with
  | [_, _], .cons r1 (.cons r2 .nil) =>
  cases r1
  obtain ⟨t, rfl⟩ := r2
  obtain ⟨its, rv, pl, _⟩ := I1.list sq
  have lta : a < S1.heap.objs.size := pl.lt
  have fresh5 : ∀ b, b ∈ [S1.heap.objs.size + 4, S1.heap.objs.size + 2, S1.heap.objs.size + 3, S1.heap.objs.size, S1.heap.objs.size + 1] → FpOk X pins G b := fun b hb => by
    have le : S1.heap.objs.size ≤ b := by
      rcases (show b = S1.heap.objs.size + 4 ∨ b = S1.heap.objs.size + 2 ∨ b = S1.heap.objs.size + 3 ∨ b = S1.heap.objs.size ∨ b = S1.heap.objs.size + 1 by simpa using hb) with e | e | e | e | e
      all_goals
        rw [e]
        first | exact Nat.le_refl _ | exact Nat.le_add_right _ _
    exact I1.fpOk le (I1.hok.fresh le)
  have sep := zip_sep S1.heap.objs.size a lta
  refine zip_begins2 (begins_list a its.toArray) (begins_text x t) pl.isList trivial fun h' hz hTI hTO g1 g2 _ hk => wpAny_pyIter_zip hz ?_
  exact ⟨S1.heap.objs.size + 4, [S1.heap.objs.size + 4, S1.heap.objs.size + 2, S1.heap.objs.size + 3, S1.heap.objs.size, S1.heap.objs.size + 1], _, _, G, rfl, I1.kept (t' := S1.toks) hk, turn_zipS sep (Nat.ne_of_lt lta), ⟨hz, hTI, ⟨_, _, hTO⟩, ⟨_, g1, rfl, rfl⟩, ⟨_, g2, rfl, rfl⟩⟩, fresh5, hR⟩
theorem r_zipS {K : PySem.W.Frag} {σ : L2.St} {H : Hp} {ts : TA} {R : It → Hp → Prop} (h : ts σ H fun vs G => ∃ (a : Addr) (xs : List V) (x : Str), vs = [.ref a, .str x] ∧ SqL K G a xs ∧ R (ItzS K a x) G) : iZipS K ts σ H R := h
theorem lc_ok_zipLS {K : PySem.W.Frag} {a : Addr} {xs : List V} {x : Str} {g : TG} {tt : TT} {te : TE} {vs : List Nat} {σ : L2.St} {H : Hp} {D : Addr} {S : Hp → Prop} (hl : xs.length = x.cps.size) (Pv : Nat → Hp → Prop) (h0 : Pv 0 (upd H D (.lst []))) (hq : ∀ i H, Pv i H → SqL K H a xs)
    (hs : ∀ (i : Nat) (y : V) (c : Nat) (t : Addr) (H : Hp), xs[i]? = some y → x.cps[i]? = some c → Pv i H → H t = none → g (.ref t) (wipe σ vs) (upd H t (.tup [y, .str ⟨#[c]⟩])) fun σ2 H2 => wipe σ2 vs = wipe σ vs ∧ tt σ2 H2 fun b H3 => if b = true then te σ2 H3 fun y H4 => Acc D (Pv (i + 1)) y H4 else Pv (i + 1) H3) (hd : ∀ H, Pv xs.length H → S H) : LcOk (ItzS K a x) g tt te vs σ D S H := by
  refine ⟨fun i k H => k = xs.length - i ∧ i ≤ xs.length ∧ Pv i H, ⟨xs.length, rfl, Nat.zero_le _, h0⟩, ?_⟩
  rintro i k H1 ⟨rfl, hi, p⟩
  have qx := hq i H1 p
  rcases Nat.lt_or_ge i xs.length with lt | ge
  · refine .inr ⟨⟨xs, xs[i], qx, List.getElem?_eq_getElem lt, by omega⟩, Pv (i + 1), fun H2 p2 => ⟨_, by omega, rfl, lt, p2⟩, ?_⟩
    rintro v H2 ⟨t, y', c, rfl, ht, rfl, f1, f2⟩
    exact hs i y' c t H1 (f1 xs qx) f2 p ht
  · obtain rfl : i = xs.length := Nat.le_antisymm hi ge
    exact .inl ⟨⟨xs, qx, Nat.le_refl _, by omega, .inl rfl⟩, hd H1 p⟩
/-! ### the desk: own rules -/
theorem count_strs {c : Str} : ∀ {ws : List Str} {us : List Value}, Vals (ws.map V.str) us → us.countP (eqU (.str c)) = ws.count c
  | [], _, .nil => rfl
  | b :: bs, _, .cons r t => by
    rw [List.countP_cons, List.count_cons, count_strs t, eqU_of r rfl]
    by_cases h : b = c
    · subst h
      simp [eqV]
    · have h2 : ¬ c = b := fun e => h e.symm
      simp [eqV, h, h2]
def rCntS (K : PySem.W.Frag) : V → List V → Hp → VK → Prop := fun x xs H Q => ∃ (p : Addr) (ws : List Str) (c : Str), x = .ref p ∧ xs = [.str c] ∧ SqL K H p (ws.map V.str) ∧ Q (.int (ws.count c : Nat)) H
theorem flat_strs (bs : List Str) : (bs.map V.str).all flatV = true := by
  induction bs with
  | nil => rfl
  | cons b bs ih =>
    rw [List.map_cons, List.all_cons, ih]
    rfl
theorem mt_countS {X : Cx} : MtR X "list.count" (rCntS X.K) := by
  rintro pins S σ H x xs v us Q I rx rxs ⟨p, bs, c, rfl, rfl, sq, q⟩
  cases rx
  obtain ⟨u, rfl, ru⟩ := rxs.one
  obtain ⟨its, rv, ⟨⟨cl, dd, data, sl⟩, n, got, hc, hdn, hd⟩, _⟩ := I.list sq
  dsimp only at hc hd
  subst hc hd
  refine call_meets PySem.F.slot_list_count ⟨_, got, rfl⟩ PySem.F.entry_list_count (PySem.F.args_list_count_2 _ _) (SeqAt.list_countAt p its.toArray n dd sl u (eqU (.str c))) ⟨got, fun y hy => mem_eqAt ru rfl rv (flat_strs bs) y (by simpa using hy), ?_⟩
  refine ⟨.int (bs.count c : Nat), H, I.tok _, ⟨S.toks, ?_⟩, q⟩
  rw [← count_strs rv]
/-! ### readings of fields, methods, dicts -/
def FldQ (K : PySem.W.Frag) (f : Str) (x : V) (H1 : Hp) (Q : VK) : Prop := ∃ a C dx fs v, x = .ref a ∧ H1 a = some (.ins C dx fs) ∧ Cls K C ∧ NoAttr K C f ∧ fs.lookup f = some v ∧ Q v H1
theorem r_fld {K : PySem.W.Frag} {ta : TE} {f : Str} {σ : L2.St} {H : Hp} {Q : VK} (h : ta σ H fun x H1 => FldQ K f x H1 Q) : tFld K ta f σ H Q := h
def SFldQ (K : PySem.W.Frag) (f : Str) (y x : V) (H2 : Hp) (S : Hp → Prop) : Prop := ∃ a C dx fs, x = .ref a ∧ H2 a = some (.ins C dx fs) ∧ Cls K C ∧ NoAttr K C f ∧ fs.length < 1000 ∧ S (upd H2 a (.ins C dx (putF f y fs)))
theorem r_sfld {K : PySem.W.Frag} {ta tv : TE} {f : Str} {D : Ends} {σ : L2.St} {H : Hp} (h : tv σ H fun y H1 => ta σ H1 fun x H2 => SFldQ K f y x H2 (D.nx σ)) : sFld K ta tv f D σ H := h
def MethQ (C : Addr) (m : Str) (x : V) (H1 : Hp) (S : Hp → Prop) : Prop := ∃ a dx fs, x = .ref a ∧ H1 a = some (.ins C dx fs) ∧ fs.lookup m = none ∧ S H1
theorem r_meth {C : Addr} {m : Str} {sp : Sp} {dvs : List V} {E : XK} {ta : TE} {t : TA} {σ : L2.St} {H : Hp} {Q : VK} (h : ta σ H fun x H1 => MethQ C m x H1 fun H1 => t σ H1 fun vs H2 => sp (x :: (vs ++ dvs)) H2 Q E) : tMeth C m sp dvs E ta t σ H Q := h
def MakeQ (C : Addr) (sp : Sp) (vs : List V) (E : XK) (H1 : Hp) (Q : VK) : Prop := ∀ x dx, H1 x = none → H1 dx = none → dx ≠ x → sp (.ref x :: vs) (upd (upd H1 dx (.own x)) x (.ins C dx [])) (fun v H2 => v = .non ∧ Q (.ref x) H2) E
theorem r_make {C : Addr} {sp : Sp} {dvs : List V} {E : XK} {t : TA} {σ : L2.St} {H : Hp} {Q : VK} (h : t σ H fun vs H1 => MakeQ C sp (vs ++ dvs) E H1 Q) : tMake C sp dvs E t σ H Q := h
def DGetQ (x y : V) (H2 : Hp) (Q : VK) : Prop := ∃ a v, x = .ref a ∧ DGet H2 a y (some v) ∧ Q v H2
theorem r_dget {td ty : TE} {σ : L2.St} {H : Hp} {Q : VK} (h : td σ H fun x H1 => ty σ H1 fun y H2 => DGetQ x y H2 Q) : tDGet td ty σ H Q := h
def DNotQ (y x : V) (H2 : Hp) (Q : VK) : Prop := ∃ a o, x = .ref a ∧ DGet H2 a y o ∧ Q (.bl (!o.isSome)) H2
theorem r_dnot {td ty : TE} {σ : L2.St} {H : Hp} {Q : VK} (h : ty σ H fun y H1 => td σ H1 fun x H2 => DNotQ y x H2 Q) : tDNotIn ty td σ H Q := h
def DPutQ (x y v : V) (H3 : Hp) (S : Hp → Prop) : Prop := ∃ a H4, x = .ref a ∧ DPut H3 a y v H4 ∧ S H4
theorem r_dput {td ty tv : TE} {D : Ends} {σ : L2.St} {H : Hp} (h : tv σ H fun v H1 => td σ H1 fun x H2 => ty σ H2 fun y H3 => DPutQ x y v H3 (D.nx σ)) : sDPut td ty tv D σ H := h
def NewK (H : Hp) (Q : VK) : Prop := ∀ p, H p = none → Q (.ref p) (upd H p (.dK []))
theorem r_dnew {σ : L2.St} {H : Hp} {Q : VK} (h : NewK H Q) : tDNewK σ H Q := h
theorem r_tBD {t : TE} {σ : L2.St} {H : Hp} {Q : Bool → Hp → Prop} (h : t σ H fun x H1 => ∃ c, x = .bl c ∧ Q c H1) : tB t σ H Q := h
/-! ### the desk -/
def DeskAt (C : Addr) (H : Hp) (dk dl : Addr) (n : Nat) (tl : Str → Option Ln3) : Prop := ∃ dx kvs, H dk = some (.ins C dx [("lines", .ref dl)]) ∧ H dl = some (.dK kvs) ∧ kvs.length ≤ n ∧ ∀ z : Str, match tl z with
  | none => valV kvs (Sum.inr z) = none
  | some l => ∃ p, valV kvs (Sum.inr z) = some (.ref p) ∧ H p = some (.tup [.int l.1, .int l.2.1, .int l.2.2])
def putT (tl : Str → Option Ln3) (name : Str) (l : Ln3) : Str → Option Ln3 := fun z => if z = name then some l else tl z
/-- all but one object stand -/
def Off (p : Addr) (H H' : Hp) : Prop := ∀ b o, H b = some o → b ≠ p → H' b = some o
theorem at_int0 {cs : List Int} {i : Int} (h0 : 0 ≤ i) (h1 : i < cs.length) : ∃ z, atI (cs.map V.int) i = some (.int z) := by
  obtain ⟨j, rfl⟩ : ∃ j : Nat, i = (j : Int) := ⟨i.toNat, by omega⟩
  exact ⟨_, at_int (by omega)⟩
/-! ### rows of numbers -/
def RowsI (H : Hp) : List V → List (List Int) → Prop
  | [], [] => True
  | v :: vs, r :: rs => (∃ p : Addr, v = .ref p ∧ H p = some (.tup (r.map V.int))) ∧ RowsI H vs rs
  | _, _ => False
theorem RowsI.same {H H' : Hp} (s : Same H H') : ∀ {vs : List V} {rs : List (List Int)}, RowsI H vs rs → RowsI H' vs rs
  | [], [], _ => trivial
  | v :: vs, r :: rs, ⟨⟨p, e, g⟩, h⟩ => ⟨⟨p, e, s _ _ g⟩, RowsI.same s h⟩
theorem RowsI.len {H : Hp} : ∀ {vs : List V} {rs : List (List Int)}, RowsI H vs rs → vs.length = rs.length
  | [], [], _ => rfl
  | v :: vs, r :: rs, ⟨_, h⟩ => congrArg (· + 1) h.len
theorem RowsI.get {H : Hp} : ∀ {vs : List V} {rs : List (List Int)} (_ : RowsI H vs rs) {i : Nat} {v : V}, vs[i]? = some v → ∃ (p : Addr) (r : List Int), v = .ref p ∧ rs[i]? = some r ∧ H p = some (.tup (r.map V.int))
  | [], [], _, i, v, h => nomatch (show (none : Option V) = some v from by simpa using h)
  | w :: vs, t :: ts, ⟨⟨p, e, g⟩, _⟩, 0, v, h => ⟨p, t, by cases h; exact e, rfl, g⟩
  | w :: vs, t :: ts, ⟨_, r⟩, i + 1, v, h => RowsI.get r (i := i) h
abbrev CondR := Int → Int → Int → List Int → Prop
abbrev AnsR := Int → Int → Int → List Int → List (List Int) → Prop
def cOne : CondR := fun _ _ _ ns => ∃ n, ns = [n]
def cCnt : CondR := fun _ _ _ ns => ∃ n, ns = [n] ∧ 0 ≤ n
def cBet : CondR := fun _ _ _ ns => ∃ x y, ns = [x, y] ∧ x ≤ y
def cBen : CondR := fun _ _ _ ns => ∃ n x, ns = [n, x] ∧ 0 ≤ n
def cWit : CondR := fun _ _ m ns => ∃ x y, ns = [x, y] ∧ 0 ≤ x ∧ x ≤ y ∧ y < m
def cOrd : CondR := fun _ _ _ ns => ∃ n x, ns = [n, x] ∧ 0 ≤ x ∧ x < n
def aPart : AnsR := fun a b m ns rows => ∀ n, ns = [n] → rows = [[(a * n + b) / m]]
def aRest : AnsR := fun a b m ns rows => ∀ n, ns = [n] → rows = [[(a * n + b) % m]]
def aSum : AnsR := fun a b m ns rows => ∀ n, ns = [n] → rows = [[sumP a b m n.toNat]]
def aRests : AnsR := fun a b m ns rows => ∀ n, ns = [n] → rows = [[sumR a b m n.toNat]]
def aSq : AnsR := fun a b m ns rows => ∀ n, ns = [n] → rows = [[sumS a b m n.toNat]]
def aPl : AnsR := fun a b m ns rows => ∀ n, ns = [n] → rows = [[sumX a b m n.toNat]]
def aBet : AnsR := fun a b m ns rows => ∀ x y, ns = [x, y] → rows = [[sumP a (a * x + b) m (y - x).toNat]]
def aBen : AnsR := fun a b m ns rows => ∀ n x, ns = [n, x] → rows = [[cntB a b m x n.toNat]]
def aWit : AnsR := fun a b m ns rows => ∀ x y, ns = [x, y] → ∃ r, Fst a b m x y r ∧ rows = (match r with | none => [] | some p => [[p]])
def aOrd : AnsR := fun a b m ns rows => ∀ n x, ns = [n, x] → ∃ r p, Ord a b m n.toNat x r p ∧ rows = [[r, p]]
/-- what one of the desk's row makers promises -/
def RowSp (lq : Str) (K : PySem.W.Frag) (P : Addr) (c : CondR) (a' : AnsR) : Sp := fun vs H Q _ => ∃ (p pn : Addr) (a b m : Int) (ns : List Int), vs = [.ref p, .ref pn] ∧ SqT K H p [.int a, .int b, .int m] ∧ 0 < m ∧ Sz 300 a ∧ Sz 300 b ∧ Sz 300 m ∧ SqL K H pn (ns.map V.int) ∧ (∀ x ∈ ns, Sz 300 x) ∧ c a b m ns ∧ LamX.TabS H P lq ∧
  ∀ (t : Addr) (vs : List V) (rows : List (List Int)) H', Ex H H' → LamX.TabS H' P lq → a' a b m ns rows → H' t = some (.lst vs) → RowsI H' vs rows → rows.length ≤ 5000 → (∀ r ∈ rows, r.length ≤ 5 ∧ ∀ z ∈ r, Sz 1800 z) → Q (.ref t) H'
theorem sz_sumF {k c : Nat} {f : Nat → Int} : ∀ {n : Nat}, (∀ i, i < n → Sz k (f i)) → Sz c (n : Int) → Sz (k + c) (sumF f n) := by
  have key : ∀ n : Nat, (∀ i, i < n → Sz k (f i)) → (sumF f n).natAbs ≤ n * 2 ^ k := by
    intro n
    induction n with
    | zero =>
      intro _
      exact Nat.zero_le _
    | succ n ih =>
      intro h
      have h1 := ih fun i hi => h i (Nat.lt_succ_of_lt hi)
      have h2 := h n (Nat.lt_succ_self n)
      unfold Sz at h2
      show (sumF f n + f n).natAbs ≤ (n + 1) * 2 ^ k
      rw [Nat.succ_mul]
      omega
  intro n h hn
  have h1 := key n h
  unfold Sz at hn ⊢
  rw [Nat.pow_add, Nat.mul_comm]
  have h2 : n < 2 ^ c := by omega
  exact Nat.lt_of_le_of_lt h1 (Nat.mul_lt_mul_of_pos_right h2 (Nat.pow_pos (by decide)))
theorem sz_nat {c : Nat} {n : Int} (n0 : 0 ≤ n) (sn : Sz c n) : Sz c ((n.toNat : Nat) : Int) := by
  rw [Int.toNat_of_nonneg n0]
  exact sn
theorem sz_lt {c : Nat} {n : Int} {i : Nat} (sn : Sz c n) (h : i < n.toNat) : Sz c (i : Int) := by
  unfold Sz at *
  omega
theorem sz_part {a b m : Int} {c d e : Nat} {i : Int} (m0 : 0 < m) (sa : Sz c a) (sb : Sz d b) (si : Sz e i) (h : d ≤ c + e) : Sz (c + e + 1) ((a * i + b) / m) := ((sa.mul si).add (sb.mono h)).div m0
theorem sz_sumP {a b m n : Int} {d : Nat} (m0 : 0 < m) (sa : Sz 300 a) (sb : Sz d b) (sm : Sz 300 m) (n0 : 0 ≤ n) {e : Nat} (sn : Sz e n) (hd : d ≤ 701 := by decide) (he : e ≤ 301 := by decide) : Sz 1800 (sumP a b m n.toNat) := by
  have h := sz_sumF (k := 1003) (c := 301) (f := fun x : Nat => (a * (x : Int) + b) / m) (n := n.toNat) (fun i hi => (sz_part (e := 701) m0 sa (sb.mono hd) ((sz_lt sn hi).mono (by omega)) (by decide)).mono (by decide)) ((sz_nat n0 sn).mono he)
  exact Sz.mono (show Sz (1003 + 301) (sumP a b m n.toNat) from h) (by decide)
theorem sz_sumR {a b m n : Int} (m0 : 0 < m) (sa : Sz 300 a) (sb : Sz 300 b) (sm : Sz 300 m) (n0 : 0 ≤ n) (sn : Sz 300 n) : Sz 1800 (sumR a b m n.toNat) := by
  have h := sz_sumF (k := 300) (c := 300) (f := fun x : Nat => (a * (x : Int) + b) % m) (n := n.toNat) (fun i hi => sm.mod m0) (sz_nat n0 sn)
  exact Sz.mono (show Sz (300 + 300) (sumR a b m n.toNat) from h) (by decide)
theorem sz_sumS {a b m n : Int} (m0 : 0 < m) (sa : Sz 300 a) (sb : Sz 300 b) (sm : Sz 300 m) (n0 : 0 ≤ n) (sn : Sz 300 n) : Sz 1800 (sumS a b m n.toNat) := by
  have p : ∀ i : Nat, i < n.toNat → Sz 601 ((a * (i : Int) + b) / m) := fun i hi => sz_part m0 sa sb (sz_lt sn hi) (by decide)
  have h := sz_sumF (k := 1202) (c := 300) (f := fun x : Nat => (a * (x : Int) + b) / m * ((a * x + b) / m)) (n := n.toNat) (fun i hi => (p i hi).mul (p i hi)) (sz_nat n0 sn)
  exact Sz.mono (show Sz (1202 + 300) (sumS a b m n.toNat) from h) (by decide)
theorem sz_sumX {a b m n : Int} (m0 : 0 < m) (sa : Sz 300 a) (sb : Sz 300 b) (sm : Sz 300 m) (n0 : 0 ≤ n) (sn : Sz 300 n) : Sz 1800 (sumX a b m n.toNat) := by
  have p : ∀ i : Nat, i < n.toNat → Sz 601 ((a * (i : Int) + b) / m) := fun i hi => sz_part m0 sa sb (sz_lt sn hi) (by decide)
  have h := sz_sumF (k := 901) (c := 300) (f := fun x : Nat => (x : Int) * ((a * x + b) / m)) (n := n.toNat) (fun i hi => (sz_lt sn hi).mul (p i hi)) (sz_nat n0 sn)
  exact Sz.mono (show Sz (901 + 300) (sumX a b m n.toNat) from h) (by decide)
theorem sz_cnt {a b m w n : Int} (n0 : 0 ≤ n) (sn : Sz 300 n) : Sz 1800 (cntB a b m w n.toNat) := by
  obtain ⟨h1, h2⟩ := cntB_nn a b m w n.toNat
  exact (sn.le h1 (by omega)).mono (by decide)
theorem sz_first {a b m low high p : Int} (m0 : 0 < m) (sm : Sz 300 m) (h : Fst a b m low high (some p)) : Sz 1800 p := by
  obtain ⟨k, rfl⟩ : ∃ k : Nat, m = (k : Int) := ⟨m.toNat, by omega⟩
  have l := Fst.lt_span (s := k) (by omega) ⟨a, Int.mul_comm _ _⟩ h
  exact (sm.le h.1 (Int.le_of_lt l)).mono (by decide)
theorem sz_ord {a b m : Int} {n : Nat} {num r x : Int} (m0 : 0 < m) (sm : Sz 300 m) (sn : Sz 300 (n : Int)) (h : Ord a b m n num r x) : ∀ z ∈ [r, x], Sz 1800 z := by
  have h1 : r = (a * x + b) % m := h.rest.symm
  intro z hz
  rcases List.mem_cons.mp hz with rfl | hz
  · rw [h1]
    exact (sm.mod m0).mono (by decide)
  · rw [List.mem_singleton.mp hz]
    exact (sn.le h.x0 (Int.le_of_lt h.x1)).mono (by decide)
/-- a name -/
def NameT (w : Str) : Prop := w.length ≤ 8 ∧ Txt.isascii w = true ∧ Txt.isalpha w = true ∧ Txt.islower w = true
/-- numbers that fit a form -/
def Fits (ns : List Int) (f : Str) : Prop := ns.length = f.length ∧ ns.length ≤ 10 ∧ (∀ z ∈ ns, z.natAbs < 10 ^ 60) ∧ ∀ (i : Nat) (z : Int) (c : Nat), ns[i]? = some z → f.cps[i]? = some c → (⟨#[c]⟩ : Str) = "N" → 0 ≤ z
theorem desk_get {C : Addr} {H : Hp} {dk dl : Addr} {n : Nat} {tl : Str → Option Ln3} {z : Str} {l : Ln3} (D : DeskAt C H dk dl n tl) (h : tl z = some l) : ∃ p, DGet H dl (.str z) (some (.ref p)) ∧ H p = some (.tup [.int l.1, .int l.2.1, .int l.2.2]) := by
  obtain ⟨dx, kvs, e1, e2, _, e3⟩ := D
  have := e3 z
  rw [h] at this
  obtain ⟨p, hv, hp⟩ := this
  refine ⟨p, ?_, hp⟩
  have g := DGet.k (k := Sum.inr z) e2
  rw [hv] at g
  exact g
theorem desk_fld {K : PySem.W.Frag} {C : Addr} {H : Hp} {dk dl : Addr} {n : Nat} {tl : Str → Option Ln3} {Q : VK} (cl : Cls K C) (na : NoAttr K C "lines") (D : DeskAt C H dk dl n tl) (h : Q (.ref dl) H) : FldQ K "lines" (.ref dk) H Q := by
  obtain ⟨dx, kvs, e1, _⟩ := D
  refine ⟨dk, C, dx, _, .ref dl, rfl, e1, cl, na, ?_, h⟩
  have e : (("lines" : Str) == ("lines" : Str)) = true := beq_self_eq_true _
  simp only [List.lookup, e]
theorem desk_meth {C : Addr} {m : Str} {H : Hp} {dk dl : Addr} {n : Nat} {tl : Str → Option Ln3} {S : Hp → Prop} (D : DeskAt C H dk dl n tl) (hm : (m == ("lines" : Str)) = false) (h : S H) : MethQ C m (.ref dk) H S := by
  obtain ⟨dx, kvs, e1, _⟩ := D
  refine ⟨dk, dx, _, rfl, e1, ?_, h⟩
  simp only [List.lookup, hm]
theorem DeskAt.ex {C : Addr} {H H' : Hp} {dk dl : Addr} {n : Nat} {tl : Str → Option Ln3} (D : DeskAt C H dk dl n tl) (x : Ex H H') : DeskAt C H' dk dl n tl := by
  obtain ⟨dx, kvs, e1, e2, e3, e4⟩ := D
  refine ⟨dx, kvs, x _ _ e1 (fun _ z => nomatch z), x _ _ e2 (fun _ z => nomatch z), e3, fun z => ?_⟩
  have := e4 z
  cases h : tl z with
  | none => rw [h] at this; exact this
  | some l =>
    rw [h] at this
    obtain ⟨p, h1, h2⟩ := this
    exact ⟨p, h1, Ex.tup x h2⟩
theorem DeskAt.put {C : Addr} {H : Hp} {dk dl : Addr} {n : Nat} {tl : Str → Option Ln3} (D : DeskAt C H dk dl n tl) (hn : n ≤ 1000) {name : Str} {l : Ln3} {p : Addr} (hp : H p = some (.tup [.int l.1, .int l.2.1, .int l.2.2])) :
    ∃ H', DPut H dl (.str name) (.ref p) H' ∧ Off dl H H' ∧ DeskAt C H' dk dl (n + 1) (putT tl name l) := by
  obtain ⟨dx, kvs, e1, e2, e3, e4⟩ := D
  have ne : dk ≠ dl := fun z => by
    rw [z, e2] at e1
    cases e1
  have off : Off dl H (upd H dl (.dK (putK kvs (Sum.inr name) (.ref p)))) := fun b o h hb => by
    rw [upd_ne hb]
    exact h
  have tup : ∀ {q : Addr} {xs : List V}, H q = some (.tup xs) → (upd H dl (.dK (putK kvs (Sum.inr name) (.ref p)))) q = some (.tup xs) := fun {q xs} h => off _ _ h fun z => by
    rw [z, e2] at h
    cases h
  refine ⟨_, DPut.k (k := Sum.inr name) e2 (Nat.lt_of_le_of_lt (Nat.le_trans e3 hn) (by decide)), off, dx, _, off _ _ e1 ne, upd_same, Nat.le_trans (length_putK _ _ _) (Nat.succ_le_succ e3), fun z => ?_⟩
  unfold putT
  by_cases hz : z = name
  · rw [if_pos hz]
    exact ⟨p, by rw [valV_put, if_pos (by rw [hz])], tup hp⟩
  · rw [if_neg hz]
    have hv : valV (putK kvs (Sum.inr name) (V.ref p)) (Sum.inr z) = valV kvs (Sum.inr z) := by rw [valV_put, if_neg (fun e => hz (Sum.inr.inj e))]
    have := e4 z
    cases h : tl z with
    | none =>
      rw [h] at this
      exact hv.trans this
    | some l' =>
      rw [h] at this
      obtain ⟨q, h1, h2⟩ := this
      exact ⟨q, hv.trans h1, tup h2⟩
theorem cut_dropD {xs : List V} {k : Nat} (h : k ≤ xs.length) : cutV xs (some (k : Int)) none = xs.drop k := by
  unfold cutV
  rw [HT.sIx_nat, HT.sIx_none, Nat.min_eq_left h]
  refine List.take_of_length_le ?_
  rw [List.length_drop]
  exact Nat.le_refl _
def rJoinK (K : PySem.W.Frag) : V → List V → Hp → VK → Prop := fun x xs H Q => ∃ (a : Str) (p : Addr) (ys : List Str), x = .str a ∧ xs = [.ref p] ∧ (SqL K H p (ys.map V.str) ∨ SqT K H p (ys.map V.str)) ∧ (ys.map fun x => x.length).sum + ys.length * a.length ≤ 16777216 ∧ Q (.str (Txt.join a ys)) H
theorem mt_joinK {X : Cx} : MtR X "str.join" (rJoinK X.K) := mt_join
theorem sum_len : ∀ {r : List Int}, (∀ z ∈ r, Sz 1800 z) → ((r.map num).map fun x => x.length).sum ≤ r.length * 1801
  | [], _ => Nat.le_refl _
  | z :: r, h => by
    have h1 := num_len (i := z) (k := 1800) (by decide) (Nat.lt_of_lt_of_le (h z List.mem_cons_self) (Nat.pow_le_pow_left (by decide) _))
    have h2 := sum_len (r := r) fun y hy => h y (List.mem_cons_of_mem _ hy)
    show (num z).length + ((r.map num).map fun x => x.length).sum ≤ (r.length + 1) * 1801
    omega
theorem log_okS {i : Int} {b : Nat} (h : Sz b i) (hb : b < 1900 := by decide) : i.natAbs.log2 < 1920 := by
  have x := PySem.Flt.log2_lt_of (Nat.succ_pos b) (h.mono (Nat.le_succ b))
  omega
/-! ### points at the desk -/
theorem minP_isD {ls : List Ln3} (h : ∀ l ∈ ls, 0 < l.2.2) (hn : 0 < ls.length) (x : Int) : IsMin ls x (minP ls x) := least_sum h hn x
theorem sz_minD {ls : List Ln3} {x : Int} (g : Gd ls) (hn : 0 < ls.length) (sx : Sz 380 x) : Sz 901 (minP ls x) := by
  obtain ⟨⟨l, hl, hv⟩, _⟩ := minP_isD (fun l hl => (g l hl).1) hn x
  obtain ⟨a1, a2, a3, a4⟩ := g l hl
  rw [← hv]
  exact Sz.div ((((a2.mul sx).mono (by decide)).add a3)) a1
theorem sz_roomD {ab be : List Ln3} {x : Int} (ga : Gd ab) (gb : Gd be) (na : 0 < ab.length) (nb : 0 < be.length) (sx : Sz 380 x) : Sz 910 (room ab be x) := by
  have gf : Gd (be.map flip3) := fun l hl => by
    obtain ⟨o, ho, rfl⟩ := List.mem_map.mp hl
    obtain ⟨a1, a2, a3, a4⟩ := gb o ho
    exact ⟨a1, a2.neg, a3.neg, a4⟩
  exact (((sz_minD ga na sx).add (sz_minD gf (by rw [List.length_map]; exact nb) sx)).add ((Sz.lit (i := 1)).mono (by decide))).mono (by decide)
def ptsZ (ab be : List Ln3) (low high : Int) : Int := sumZ (fun x => if room ab be x > 0 then room ab be x else 0) low high
theorem sz_ptsZ {ab be : List Ln3} {low high : Int} (ga : Gd ab) (gb : Gd be) (na : 0 < ab.length) (nb : 0 < be.length) (lh : low ≤ high) (sl : Sz 300 low) (sh : Sz 300 high) : Sz 1800 (ptsZ ab be low high) := by
  have inn : ∀ i : Nat, i < (high - low).toNat → Sz 380 (low + (i : Int)) := fun i hi => by
    unfold Sz at *
    have : (2 : Nat) ^ 300 ≤ 2 ^ 380 := Nat.pow_le_pow_right (by decide) (by decide)
    omega
  have h := sz_sumF (k := 910) (c := 301) (f := fun i : Nat => if room ab be (low + i) > 0 then room ab be (low + i) else 0) (n := (high - low).toNat) (fun i hi => by
    split
    · exact sz_roomD ga gb na nb (inn i hi)
    · exact (show Sz 1 0 by decide).mono (by decide)) (sz_nat (by omega) (sh.sub sl))
  exact Sz.mono (show Sz (910 + 301) (ptsZ ab be low high) from h) (by decide)
/-- the lines of names -/
def LinesOf (tl : Str → Option Ln3) : List Str → List Ln3 → Prop
  | [], [] => True
  | z :: zs, l :: ls => tl z = some l ∧ LinesOf tl zs ls
  | _, _ => False
theorem LinesOf.get {tl : Str → Option Ln3} : ∀ {zs : List Str} {ls : List Ln3}, LinesOf tl zs ls → ∀ {i : Nat} {z : Str}, zs[i]? = some z → ∃ l, ls[i]? = some l ∧ tl z = some l
  | [], [], _, i, z, h => nomatch (show (none : Option Str) = some z from by simpa using h)
  | w :: zs, l :: ls, ⟨e, _⟩, 0, z, h => ⟨l, rfl, by cases h; exact e⟩
  | w :: zs, l :: ls, ⟨_, r⟩, i + 1, z, h => LinesOf.get r (i := i) h
theorem LinesOf.len {tl : Str → Option Ln3} : ∀ {zs : List Str} {ls : List Ln3}, LinesOf tl zs ls → zs.length = ls.length
  | [], [], _ => rfl
  | w :: zs, l :: ls, ⟨_, r⟩ => congrArg (· + 1) r.len
theorem cut_toD {xs : List V} {n : Nat} (h : n ≤ xs.length) : cutV xs none (some (n : Int)) = xs.take n := by
  unfold cutV
  have e1 : HT.sIx xs.length 0 none = 0 := rfl
  rw [e1, List.drop_zero, Nat.sub_zero, HT.sIx_nat, Nat.min_eq_left h]
theorem ty_seqL {K : PySem.W.Frag} {H : Hp} {p : Addr} {xs : List V} (h : SqL K H p xs) : tyV K "list" (.ref p) H := .inl ⟨rfl, _, h⟩
/-! ### papers at the desk -/
def row5 (t : QuadP × Int) : List Int := [t.1.1, t.1.2.1, t.1.2.2.1, t.1.2.2.2, t.2]
def aPaper : AnsR := fun a b m ns rows => ∀ n, ns = [n] → ∃ l, Pa a b m n l ∧ rows = (tots l).map row5
theorem Pa.szs {k : Nat} {a b m n : Int} {l : List QuadP} (h : Pa a b m n l) : Sz k a → Sz k b → Sz k m → Sz k n → ∀ t ∈ l, Sz k t.1 ∧ Sz k t.2.1 ∧ Sz k t.2.2.1 ∧ Sz k t.2.2.2 := by
  induction h with
  | last hm sa sb sm hn sn hk =>
    intro ka kb km kn t ht
    rw [List.mem_singleton.mp ht]
    exact ⟨kn, ka, kb, km⟩
  | step hm sa sb sm hn sn hk h ih =>
    intro ka kb km kn t ht
    obtain ⟨c0, c1, s1, s2, k0, k1⟩ := turnP (a := _) (b := _) hm sm hn sn hk
    rcases List.mem_cons.mp ht with rfl | ht
    · exact ⟨kn, ka, kb, km⟩
    · exact ih km (km.mod hm) (km.mod hm) (kn.le k0 k1) t ht
theorem tots_get : ∀ (l : List QuadP) (i : Nat) (t : QuadP × Int), (tots l)[i]? = some t → l[i]? = some t.1 ∧ t.2 = sumO (l.drop i)
  | [], i, t, h => nomatch h
  | u :: l, 0, t, h => by
    cases h
    exact ⟨rfl, rfl⟩
  | u :: l, i + 1, t, h => tots_get l i t h
theorem pa_sizes {a b m n : Int} {l : List QuadP} (h : Pa a b m n l) (ka : Sz 300 a) (kb : Sz 300 b) (km : Sz 300 m) (kn : Sz 300 n) : ∀ t ∈ tots l, ∀ z ∈ row5 t, Sz 1800 z := by
  intro t ht z hz
  obtain ⟨i, hi⟩ := List.mem_iff_getElem?.mp ht
  obtain ⟨h1, h2⟩ := tots_get l i t hi
  obtain ⟨z1, z2, z3, z4⟩ := h.szs ka kb km kn t.1 (List.mem_of_getElem? h1)
  have hp := h.drop i t.1 h1
  have h5 : Sz 1800 t.2 := by
    rw [h2, hp.sum]
    exact sz_sumP hp.pos.1 z2 z3 z4 hp.pos.2.2.2.2.1 (e := 300) z1
  unfold row5 at hz
  simp only [List.mem_cons, List.not_mem_nil, or_false] at hz
  rcases hz with rfl | rfl | rfl | rfl | rfl
  · exact z1.mono (by decide)
  · exact z2.mono (by decide)
  · exact z3.mono (by decide)
  · exact z4.mono (by decide)
  · exact h5
theorem acc_mkL {D : Addr} {S : Hp → Prop} {y : V} {H : Hp} {acc : List V} (h : H D = some (.lst acc)) (l : acc.length < 10000) (k : ∀ H1, H1 D = some (.lst (acc ++ [y])) → But D H H1 → S H1) : Acc D S y H :=
  ⟨acc, h, Nat.lt_of_lt_of_le l (by decide), k _ upd_same fun b o n e => by rw [upd_ne n]; exact e⟩
/-- nothing but a table stands there -/
def NewA (H : Hp) (t : Addr) : Prop := ∀ o, H t = some o → ∃ ps, o = .tbl ps
theorem NewA.of {H H' : Hp} {t : Addr} (x : Ex H H') (n : H' t = none) : NewA H t := fun o h => by
  cases o with
  | tbl ps => exact ⟨ps, rfl⟩
  | _ =>
    rw [x _ _ h (fun _ z => nomatch z)] at n
    cases n
theorem NewA.lst {H : Hp} {t p : Addr} {xs : List V} (n : NewA H t) (h : H p = some (.lst xs)) : p ≠ t := fun z => by
  obtain ⟨ps, e⟩ := n _ (z ▸ h)
  cases e
theorem RowsI.moreT {H H' : Hp} (k : ∀ (p : Addr) (xs : List V), H p = some (.tup xs) → H' p = some (.tup xs)) : ∀ {vs : List V} {rs : List (List Int)}, RowsI H vs rs → RowsI H' vs rs
  | [], [], _ => trivial
  | v :: vs, r :: rs, ⟨⟨p, e, g⟩, h⟩ => ⟨⟨p, e, k _ _ g⟩, RowsI.moreT k h⟩
theorem RowsI.app {H : Hp} {p : Addr} {r : List Int} (hp : H p = some (.tup (r.map V.int))) : ∀ {vs : List V} {rs : List (List Int)}, RowsI H vs rs → RowsI H (vs ++ [.ref p]) (rs ++ [r])
  | [], [], _ => ⟨⟨p, rfl, hp⟩, trivial⟩
  | v :: vs, r :: rs, ⟨e, h⟩ => ⟨e, RowsI.app hp h⟩
/-- numbers of sixty figures at most -/
def N60 (z : Int) : Prop := z.natAbs < 10 ^ 60
theorem N60.sz {z : Int} (h : N60 z) : Sz 200 z := by
  have h2 : (10 : Nat) ^ 60 ≤ 2 ^ 200 := by decide
  unfold N60 at h
  show z.natAbs < 2 ^ 200
  omega
theorem N60.neg {z : Int} (h : N60 z) : N60 (-z) := by
  unfold N60 at *
  omega
theorem N60.of {x : Int} {e f : Nat} (h0 : 0 ≤ x) (he : e ≤ f) (h : x < 10 ^ e) : x.natAbs < 10 ^ f := by
  have h1 : x.natAbs < 10 ^ e := by
    have : ((x.natAbs : Nat) : Int) < ((10 ^ e : Nat) : Int) := by
      rw [Int.natCast_pow]
      show ((x.natAbs : Nat) : Int) < 10 ^ e
      omega
    omega
  exact Nat.lt_of_lt_of_le h1 (Nat.pow_le_pow_right (by decide) he)
/-! ### names -/
theorem foldl_repN (x : Array Nat) : ∀ (n : Nat) (acc : Array Nat), ((List.replicate n x).foldl (· ++ ·) acc).toList = acc.toList ++ (List.replicate n x.toList).flatten
  | 0, acc => by simp
  | n + 1, acc => by
    rw [List.replicate_succ, List.foldl_cons, foldl_repN x n, List.replicate_succ, List.flatten_cons, Array.toList_append, List.append_assoc]
theorem tl_mulC (c : Nat) (g : Int) : tl (Txt.mul ⟨#[c]⟩ g) = List.replicate g.toNat c := by
  unfold Txt.mul
  by_cases h1 : g < 1
  · rw [if_pos h1, show g.toNat = 0 by omega]
    rfl
  · rw [if_neg h1]
    by_cases h2 : g = 1
    · subst h2
      rw [if_pos (by simp)]
      rfl
    · rw [if_neg (by
        have hl : ((⟨#[c]⟩ : Str).length == 0) = false := rfl
        rw [hl, Bool.or_false]
        simp [h2])]
      show ((List.replicate g.toNat #[c]).foldl (· ++ ·) #[]).toList = _
      rw [foldl_repN]
      generalize g.toNat = n
      induction n with
      | zero => rfl
      | succ n ih =>
        rw [List.replicate_succ, List.flatten_cons, List.replicate_succ]
        simp only [List.nil_append] at ih ⊢
        rw [ih]
        simp
theorem mulC_ok {c : Nat} {g : Int} (h0 : 0 ≤ g) (h1 : g ≤ 10) : MulOk ⟨#[c]⟩ g := by
  have hl : (⟨#[c]⟩ : Str).length = 1 := rfl
  refine ⟨?_, fun h2 h3 => ?_, fun h2 h3 => ?_⟩
  · rw [decide_eq_false (by omega), decide_eq_false (by omega)]
    rfl
  · rw [hl]
    have : (1 : Int) ≤ (2 ^ 63 - 1) / g := by
      rw [Int.le_ediv_iff_mul_le (by omega)]
      omega
    omega
  · rw [hl, Nat.one_mul]
    show decide (g.toNat > sizeLine) = false
    refine decide_eq_false (Nat.not_lt.2 (Nat.le_trans (show g.toNat ≤ 10 by omega) (by decide)))
def LowL (l : List Nat) : Prop := 1 ≤ l.length ∧ l.length ≤ 8 ∧ ∀ c ∈ l, 97 ≤ c ∧ c ≤ 122
theorem low_facts : ∀ c : Nat, 97 ≤ c → c ≤ 122 → Unicode.isAlpha c = true ∧ Unicode.isLower c = true ∧ (Unicode.isUpper c || Unicode.isTitle c) = false ∧ (decide (c < 128)) = true := by
  have h : ∀ i : Fin 26, Unicode.isAlpha (97 + i.val) = true ∧ Unicode.isLower (97 + i.val) = true ∧ (Unicode.isUpper (97 + i.val) || Unicode.isTitle (97 + i.val)) = false ∧ (decide (97 + i.val < 128)) = true := by decide +kernel
  intro c h0 h1
  have := h ⟨c - 97, by omega⟩
  rw [show 97 + (c - 97) = c by omega] at this
  exact this
theorem name_low {w : Str} (h : LowL (tl w)) : NameT w := by
  obtain ⟨h1, h2, h3⟩ := h
  have hl := len_tl w
  refine ⟨by omega, ?_, ?_, ?_⟩
  · unfold Txt.isascii
    rw [Array.all_eq_true_iff_forall_mem]
    intro c hc
    have hm : c ∈ tl w := by simpa [tl] using hc
    exact (low_facts c (h3 c hm).1 (h3 c hm).2).2.2.2
  · unfold Txt.isalpha
    rw [Bool.and_eq_true]
    refine ⟨by simpa using (show 0 < w.length by omega), ?_⟩
    rw [Array.all_eq_true_iff_forall_mem]
    intro c hc
    have hm : c ∈ tl w := by simpa [tl] using hc
    exact (low_facts c (h3 c hm).1 (h3 c hm).2).1
  · unfold Txt.islower
    rw [Bool.and_eq_true]
    refine ⟨?_, ?_⟩
    · rw [Array.any_eq_true']
      obtain ⟨c, r, e⟩ : ∃ c r, tl w = c :: r := by
        cases e : tl w with
        | nil => rw [e] at h1; exact absurd h1 (by decide)
        | cons c r => exact ⟨c, r, rfl⟩
      have hm : c ∈ tl w := by rw [e]; exact List.mem_cons_self
      exact ⟨c, by simpa [tl] using hm, (low_facts c (h3 c hm).1 (h3 c hm).2).2.1⟩
    · rw [Bool.not_eq_true', Array.any_eq_false']
      intro c hc
      have hm : c ∈ tl w := by simpa [tl] using hc
      rw [(low_facts c (h3 c hm).1 (h3 c hm).2).2.2.1]
      exact Bool.false_ne_true
theorem low_free {w : Str} (h : LowL (tl w)) : 32 ∉ tl w := fun z => by
  have := (h.2.2 32 z).1
  omega
theorem low_semi {w : Str} (h : LowL (tl w)) : w ≠ ";" := fun e => by
  have e2 : tl (";" : Str) = [59] := by decide +kernel
  have := (h.2.2 59 (by rw [e, e2]; exact List.mem_cons_self)).1
  omega
/-! ### the text by places -/
def topS (i : Nat) : Stmt := PySem.Challenge.pw_turnedline_k37_desk_great_lines.main.body.getD i (.Pass ⟨0, 0, 0, 0⟩)
abbrev s_check_line : Stmt := topS 8
abbrev N_check_line : List Str := ["line"]
theorem st_check_line (v0 : V) : L2.start N_check_line [v0] = [some v0] := rfl
theorem sc_check_line : FnScope N_check_line ["line"] (defScope s_check_line) := ⟨rfl, rfl, rfl, by decide +kernel, rfl, by decide +kernel, by decide +kernel⟩
abbrev s_height_at : Stmt := topS 9
abbrev N_height_at : List Str := ["line", "place"]
theorem st_height_at (v0 v1 : V) : L2.start N_height_at [v0, v1] = [some v0, some v1] := rfl
theorem sc_height_at : FnScope N_height_at ["line", "place"] (defScope s_height_at) := ⟨rfl, rfl, rfl, by decide +kernel, rfl, by decide +kernel, by decide +kernel⟩
abbrev s_part_at : Stmt := topS 10
abbrev N_part_at : List Str := ["line", "place"]
theorem st_part_at (v0 v1 : V) : L2.start N_part_at [v0, v1] = [some v0, some v1] := rfl
theorem sc_part_at : FnScope N_part_at ["line", "place"] (defScope s_part_at) := ⟨rfl, rfl, rfl, by decide +kernel, rfl, by decide +kernel, by decide +kernel⟩
abbrev s_rest_at : Stmt := topS 11
abbrev N_rest_at : List Str := ["line", "place"]
theorem st_rest_at (v0 v1 : V) : L2.start N_rest_at [v0, v1] = [some v0, some v1] := rfl
theorem sc_rest_at : FnScope N_rest_at ["line", "place"] (defScope s_rest_at) := ⟨rfl, rfl, rfl, by decide +kernel, rfl, by decide +kernel, by decide +kernel⟩
abbrev s_laid_off : Stmt := topS 12
abbrev N_laid_off : List Str := ["line", "a", "b", "m", "q", "new_a", "r", "new_b"]
theorem st_laid_off (v0 : V) : L2.start N_laid_off [v0] = [some v0, none, none, none, none, none, none, none] := rfl
theorem sc_laid_off : FnScope N_laid_off ["line"] (defScope s_laid_off) := ⟨rfl, rfl, rfl, by decide +kernel, rfl, by decide +kernel, by decide +kernel⟩
abbrev s_turned : Stmt := topS 13
abbrev N_turned : List Str := ["line", "n", "a", "b", "m", "k"]
theorem st_turned (v0 v1 : V) : L2.start N_turned [v0, v1] = [some v0, some v1, none, none, none, none] := rfl
theorem sc_turned : FnScope N_turned ["line", "n"] (defScope s_turned) := ⟨rfl, rfl, rfl, by decide +kernel, rfl, by decide +kernel, by decide +kernel⟩
abbrev s_is_number : Stmt := topS 14
abbrev N_is_number : List Str := ["word", "figures"]
theorem st_is_number (v0 : V) : L2.start N_is_number [v0] = [some v0, none] := rfl
theorem sc_is_number : FnScope N_is_number ["word"] (defScope s_is_number) := ⟨rfl, rfl, rfl, by decide +kernel, rfl, by decide +kernel, by decide +kernel⟩
abbrev s_check_stretch : Stmt := topS 16
abbrev N_check_stretch : List Str := ["low", "high"]
theorem st_check_stretch (v0 v1 : V) : L2.start N_check_stretch [v0, v1] = [some v0, some v1] := rfl
theorem sc_check_stretch : FnScope N_check_stretch ["low", "high"] (defScope s_check_stretch) := ⟨rfl, rfl, rfl, by decide +kernel, rfl, by decide +kernel, by decide +kernel⟩
abbrev s_sum_places : Stmt := topS 17
abbrev N_sum_places : List Str := ["n"]
theorem st_sum_places (v0 : V) : L2.start N_sum_places [v0] = [some v0] := rfl
theorem sc_sum_places : FnScope N_sum_places ["n"] (defScope s_sum_places) := ⟨rfl, rfl, rfl, by decide +kernel, rfl, by decide +kernel, by decide +kernel⟩
abbrev s_sum_parts : Stmt := topS 18
abbrev N_sum_parts : List Str := ["line", "n", "total", "q", "r"]
theorem st_sum_parts (v0 v1 : V) : L2.start N_sum_parts [v0, v1] = [some v0, some v1, none, none, none] := rfl
theorem sc_sum_parts : FnScope N_sum_parts ["line", "n"] (defScope s_sum_parts) := ⟨rfl, rfl, rfl, by decide +kernel, rfl, by decide +kernel, by decide +kernel⟩
abbrev s_sum_rests : Stmt := topS 19
abbrev N_sum_rests : List Str := ["line", "n", "a", "b", "m"]
theorem st_sum_rests (v0 v1 : V) : L2.start N_sum_rests [v0, v1] = [some v0, some v1, none, none, none] := rfl
theorem sc_sum_rests : FnScope N_sum_rests ["line", "n"] (defScope s_sum_rests) := ⟨rfl, rfl, rfl, by decide +kernel, rfl, by decide +kernel, by decide +kernel⟩
abbrev s_sum_between : Stmt := topS 20
abbrev N_sum_between : List Str := ["line", "low", "high", "moved"]
theorem st_sum_between (v0 v1 v2 : V) : L2.start N_sum_between [v0, v1, v2] = [some v0, some v1, some v2, none] := rfl
theorem sc_sum_between : FnScope N_sum_between ["line", "low", "high"] (defScope s_sum_between) := ⟨rfl, rfl, rfl, by decide +kernel, rfl, by decide +kernel, by decide +kernel⟩
abbrev s_paper_steps : Stmt := topS 22
abbrev N_paper_steps : List Str := ["line", "n", "steps", "q", "r", "rest_line"]
theorem st_paper_steps (v0 v1 : V) : L2.start N_paper_steps [v0, v1] = [some v0, some v1, none, none, none, none] := rfl
theorem sc_paper_steps : FnScope N_paper_steps ["line", "n"] (defScope s_paper_steps) := ⟨rfl, rfl, rfl, by decide +kernel, rfl, by decide +kernel, by decide +kernel⟩
abbrev s_sum_paper : Stmt := topS 23
abbrev N_sum_paper : List Str := ["line", "n", "rows", "total", "count", "row_line", "more"]
theorem st_sum_paper (v0 v1 : V) : L2.start N_sum_paper [v0, v1] = [some v0, some v1, none, none, none, none, none] := rfl
theorem sc_sum_paper : FnScope N_sum_paper ["line", "n"] (defScope s_sum_paper) := ⟨rfl, rfl, rfl, by decide +kernel, rfl, by decide +kernel, by decide +kernel⟩
abbrev s_rounded_up : Stmt := topS 25
abbrev N_rounded_up : List Str := ["number", "by"]
theorem st_rounded_up (v0 v1 : V) : L2.start N_rounded_up [v0, v1] = [some v0, some v1] := rfl
theorem sc_rounded_up : FnScope N_rounded_up ["number", "by"] (defScope s_rounded_up) := ⟨rfl, rfl, rfl, by decide +kernel, rfl, by decide +kernel, by decide +kernel⟩
abbrev s_common_measure : Stmt := topS 26
abbrev N_common_measure : List Str := ["a", "m"]
theorem st_common_measure (v0 v1 : V) : L2.start N_common_measure [v0, v1] = [some v0, some v1] := rfl
theorem sc_common_measure : FnScope N_common_measure ["a", "m"] (defScope s_common_measure) := ⟨rfl, rfl, rfl, by decide +kernel, rfl, by decide +kernel, by decide +kernel⟩
abbrev s_first_such : Stmt := topS 27
abbrev N_first_such : List Str := ["low", "high", "is_such", "middle"]
theorem st_first_such (v0 v1 v2 : V) : L2.start N_first_such [v0, v1, v2] = [some v0, some v1, some v2, none] := rfl
theorem sc_first_such : FnScope N_first_such ["low", "high", "is_such"] (defScope s_first_such) := ⟨rfl, rfl, rfl, by decide +kernel, rfl, by decide +kernel, by decide +kernel⟩
abbrev s_check_between : Stmt := topS 29
abbrev N_check_between : List Str := ["above", "beneath", "low", "high", "line"]
theorem st_check_between (v0 v1 v2 v3 : V) : L2.start N_check_between [v0, v1, v2, v3] = [some v0, some v1, some v2, some v3, none] := rfl
theorem sc_check_between : FnScope N_check_between ["above", "beneath", "low", "high"] (defScope s_check_between) := ⟨rfl, rfl, rfl, by decide +kernel, rfl, by decide +kernel, by decide +kernel⟩
abbrev s_kept : Stmt := topS 30
abbrev N_kept : List Str := ["stretch", "c", "d", "low", "high"]
theorem st_kept (v0 v1 v2 : V) : L2.start N_kept [v0, v1, v2] = [some v0, some v1, some v2, none, none] := rfl
theorem sc_kept : FnScope N_kept ["stretch", "c", "d"] (defScope s_kept) := ⟨rfl, rfl, rfl, by decide +kernel, rfl, by decide +kernel, by decide +kernel⟩
abbrev s_kept_no_higher : Stmt := topS 31
abbrev N_kept_no_higher : List Str := ["stretch", "line", "other", "gap", "a", "b", "m", "other_a", "other_b", "other_m"]
theorem st_kept_no_higher (v0 v1 v2 v3 : V) : L2.start N_kept_no_higher [v0, v1, v2, v3] = [some v0, some v1, some v2, some v3, none, none, none, none, none, none] := rfl
theorem sc_kept_no_higher : FnScope N_kept_no_higher ["stretch", "line", "other", "gap"] (defScope s_kept_no_higher) := ⟨rfl, rfl, rfl, by decide +kernel, rfl, by decide +kernel, by decide +kernel⟩
abbrev s_stretch_between : Stmt := topS 32
abbrev N_stretch_between : List Str := ["above", "beneath", "low", "high", "stretch", "line", "other"]
theorem st_stretch_between (v0 v1 v2 v3 : V) : L2.start N_stretch_between [v0, v1, v2, v3] = [some v0, some v1, some v2, some v3, none, none, none] := rfl
theorem sc_stretch_between : FnScope N_stretch_between ["above", "beneath", "low", "high"] (defScope s_stretch_between) := ⟨rfl, rfl, rfl, by decide +kernel, rfl, by decide +kernel, by decide +kernel⟩
abbrev s_stretch_of_least : Stmt := topS 33
abbrev N_stretch_of_least : List Str := ["lines", "at", "stretch", "number", "other", "gap"]
theorem st_stretch_of_least (v0 v1 v2 : V) : L2.start N_stretch_of_least [v0, v1, v2] = [some v0, some v1, some v2, none, none, none] := rfl
theorem sc_stretch_of_least : FnScope N_stretch_of_least ["lines", "at", "stretch"] (defScope s_stretch_of_least) := ⟨rfl, rfl, rfl, by decide +kernel, rfl, by decide +kernel, by decide +kernel⟩
abbrev s_sum_least : Stmt := topS 34
abbrev N_sum_least : List Str := ["lines", "stretch", "total", "at", "line", "low", "high"]
theorem st_sum_least (v0 v1 : V) : L2.start N_sum_least [v0, v1] = [some v0, some v1, none, none, none, none, none] := rfl
theorem sc_sum_least : FnScope N_sum_least ["lines", "stretch"] (defScope s_sum_least) := ⟨rfl, rfl, rfl, by decide +kernel, rfl, by decide +kernel, by decide +kernel⟩
abbrev s_upside_down : Stmt := topS 35
abbrev N_upside_down : List Str := ["lines", "a", "b", "m"]
theorem st_upside_down (v0 : V) : L2.start N_upside_down [v0] = [some v0, none, none, none] := rfl
theorem sc_upside_down : FnScope N_upside_down ["lines"] (defScope s_upside_down) := ⟨rfl, rfl, rfl, by decide +kernel, rfl, by decide +kernel, by decide +kernel⟩
abbrev s_count_points : Stmt := topS 36
abbrev N_count_points : List Str := ["above", "beneath", "stretch", "low", "high"]
theorem st_count_points (v0 v1 v2 : V) : L2.start N_count_points [v0, v1, v2] = [some v0, some v1, some v2, none, none] := rfl
theorem sc_count_points : FnScope N_count_points ["above", "beneath", "stretch"] (defScope s_count_points) := ⟨rfl, rfl, rfl, by decide +kernel, rfl, by decide +kernel, by decide +kernel⟩
abbrev s_points_between : Stmt := topS 37
abbrev N_points_between : List Str := ["above", "beneath", "low", "high"]
theorem st_points_between (v0 v1 v2 v3 : V) : L2.start N_points_between [v0, v1, v2, v3] = [some v0, some v1, some v2, some v3] := rfl
theorem sc_points_between : FnScope N_points_between ["above", "beneath", "low", "high"] (defScope s_points_between) := ⟨rfl, rfl, rfl, by decide +kernel, rfl, by decide +kernel, by decide +kernel⟩
abbrev s_rests_beneath : Stmt := topS 39
abbrev N_rests_beneath : List Str := ["line", "n", "bound", "a", "b", "m", "within"]
theorem st_rests_beneath (v0 v1 v2 : V) : L2.start N_rests_beneath [v0, v1, v2] = [some v0, some v1, some v2, none, none, none, none] := rfl
theorem sc_rests_beneath : FnScope N_rests_beneath ["line", "n", "bound"] (defScope s_rests_beneath) := ⟨rfl, rfl, rfl, by decide +kernel, rfl, by decide +kernel, by decide +kernel⟩
abbrev s_first_multiple : Stmt := topS 40
abbrev N_first_multiple : List Str := ["a", "m", "low", "high", "steps", "place", "old_a", "old_m", "old_low"]
theorem st_first_multiple (v0 v1 v2 v3 : V) : L2.start N_first_multiple [v0, v1, v2, v3] = [some v0, some v1, some v2, some v3, none, none, none, none, none] := rfl
theorem sc_first_multiple : FnScope N_first_multiple ["a", "m", "low", "high"] (defScope s_first_multiple) := ⟨rfl, rfl, rfl, by decide +kernel, rfl, by decide +kernel, by decide +kernel⟩
abbrev s_first_within : Stmt := topS 41
abbrev N_first_within : List Str := ["line", "low", "high", "a", "b", "m"]
theorem st_first_within (v0 v1 v2 : V) : L2.start N_first_within [v0, v1, v2] = [some v0, some v1, some v2, none, none, none] := rfl
theorem sc_first_within : FnScope N_first_within ["line", "low", "high"] (defScope s_first_within) := ⟨rfl, rfl, rfl, by decide +kernel, rfl, by decide +kernel, by decide +kernel⟩
abbrev s_in_order : Stmt := topS 42
abbrev N_in_order : List Str := ["line", "n", "number", "m", "rest", "ahead", "distance"]
theorem st_in_order (v0 v1 v2 : V) : L2.start N_in_order [v0, v1, v2] = [some v0, some v1, some v2, none, none, none, none] := rfl
theorem sc_in_order : FnScope N_in_order ["line", "n", "number"] (defScope s_in_order) := ⟨rfl, rfl, rfl, by decide +kernel, rfl, by decide +kernel, by decide +kernel⟩
abbrev s_sum_place_squares : Stmt := topS 44
abbrev N_sum_place_squares : List Str := ["n"]
theorem st_sum_place_squares (v0 : V) : L2.start N_sum_place_squares [v0] = [some v0] := rfl
theorem sc_sum_place_squares : FnScope N_sum_place_squares ["n"] (defScope s_sum_place_squares) := ⟨rfl, rfl, rfl, by decide +kernel, rfl, by decide +kernel, by decide +kernel⟩
abbrev s_sums_before_turning : Stmt := topS 45
abbrev N_sums_before_turning : List Str := ["n", "k", "sums", "parts", "squares", "placed", "new_placed", "new_squares"]
theorem st_sums_before_turning (v0 v1 v2 : V) : L2.start N_sums_before_turning [v0, v1, v2] = [some v0, some v1, some v2, none, none, none, none, none] := rfl
theorem sc_sums_before_turning : FnScope N_sums_before_turning ["n", "k", "sums"] (defScope s_sums_before_turning) := ⟨rfl, rfl, rfl, by decide +kernel, rfl, by decide +kernel, by decide +kernel⟩
abbrev s_sums_before_laying_off : Stmt := topS 46
abbrev N_sums_before_laying_off : List Str := ["n", "q", "r", "sums", "parts", "squares", "placed", "places", "place_squares", "new_parts", "new_placed", "laid_squares", "new_squares"]
theorem st_sums_before_laying_off (v0 v1 v2 v3 : V) : L2.start N_sums_before_laying_off [v0, v1, v2, v3] = [some v0, some v1, some v2, some v3, none, none, none, none, none, none, none, none, none] := rfl
theorem sc_sums_before_laying_off : FnScope N_sums_before_laying_off ["n", "q", "r", "sums"] (defScope s_sums_before_laying_off) := ⟨rfl, rfl, rfl, by decide +kernel, rfl, by decide +kernel, by decide +kernel⟩
abbrev s_part_sums : Stmt := topS 47
abbrev N_part_sums : List Str := ["line", "n", "steps", "q", "r", "k", "sums", "count"]
theorem st_part_sums (v0 v1 : V) : L2.start N_part_sums [v0, v1] = [some v0, some v1, none, none, none, none, none, none] := rfl
theorem sc_part_sums : FnScope N_part_sums ["line", "n"] (defScope s_part_sums) := ⟨rfl, rfl, rfl, by decide +kernel, rfl, by decide +kernel, by decide +kernel⟩
abbrev s_sum_squares : Stmt := topS 48
abbrev N_sum_squares : List Str := ["line", "n"]
theorem st_sum_squares (v0 v1 : V) : L2.start N_sum_squares [v0, v1] = [some v0, some v1] := rfl
theorem sc_sum_squares : FnScope N_sum_squares ["line", "n"] (defScope s_sum_squares) := ⟨rfl, rfl, rfl, by decide +kernel, rfl, by decide +kernel, by decide +kernel⟩
abbrev s_sum_placed : Stmt := topS 49
abbrev N_sum_placed : List Str := ["line", "n"]
theorem st_sum_placed (v0 v1 : V) : L2.start N_sum_placed [v0, v1] = [some v0, some v1] := rfl
theorem sc_sum_placed : FnScope N_sum_placed ["line", "n"] (defScope s_sum_placed) := ⟨rfl, rfl, rfl, by decide +kernel, rfl, by decide +kernel, by decide +kernel⟩
abbrev s_part_rows : Stmt := topS 54
abbrev N_part_rows : List Str := ["line", "numbers"]
theorem st_part_rows (v0 v1 : V) : L2.start N_part_rows [v0, v1] = [some v0, some v1] := rfl
theorem sc_part_rows : FnScope N_part_rows ["line", "numbers"] (defScope s_part_rows) := ⟨rfl, rfl, rfl, by decide +kernel, rfl, by decide +kernel, by decide +kernel⟩
abbrev s_rest_rows : Stmt := topS 55
abbrev N_rest_rows : List Str := ["line", "numbers"]
theorem st_rest_rows (v0 v1 : V) : L2.start N_rest_rows [v0, v1] = [some v0, some v1] := rfl
theorem sc_rest_rows : FnScope N_rest_rows ["line", "numbers"] (defScope s_rest_rows) := ⟨rfl, rfl, rfl, by decide +kernel, rfl, by decide +kernel, by decide +kernel⟩
abbrev s_sum_rows : Stmt := topS 56
abbrev N_sum_rows : List Str := ["line", "numbers"]
theorem st_sum_rows (v0 v1 : V) : L2.start N_sum_rows [v0, v1] = [some v0, some v1] := rfl
theorem sc_sum_rows : FnScope N_sum_rows ["line", "numbers"] (defScope s_sum_rows) := ⟨rfl, rfl, rfl, by decide +kernel, rfl, by decide +kernel, by decide +kernel⟩
abbrev s_rests_rows : Stmt := topS 57
abbrev N_rests_rows : List Str := ["line", "numbers"]
theorem st_rests_rows (v0 v1 : V) : L2.start N_rests_rows [v0, v1] = [some v0, some v1] := rfl
theorem sc_rests_rows : FnScope N_rests_rows ["line", "numbers"] (defScope s_rests_rows) := ⟨rfl, rfl, rfl, by decide +kernel, rfl, by decide +kernel, by decide +kernel⟩
abbrev s_squares_rows : Stmt := topS 58
abbrev N_squares_rows : List Str := ["line", "numbers"]
theorem st_squares_rows (v0 v1 : V) : L2.start N_squares_rows [v0, v1] = [some v0, some v1] := rfl
theorem sc_squares_rows : FnScope N_squares_rows ["line", "numbers"] (defScope s_squares_rows) := ⟨rfl, rfl, rfl, by decide +kernel, rfl, by decide +kernel, by decide +kernel⟩
abbrev s_placed_rows : Stmt := topS 59
abbrev N_placed_rows : List Str := ["line", "numbers"]
theorem st_placed_rows (v0 v1 : V) : L2.start N_placed_rows [v0, v1] = [some v0, some v1] := rfl
theorem sc_placed_rows : FnScope N_placed_rows ["line", "numbers"] (defScope s_placed_rows) := ⟨rfl, rfl, rfl, by decide +kernel, rfl, by decide +kernel, by decide +kernel⟩
abbrev s_between_rows : Stmt := topS 60
abbrev N_between_rows : List Str := ["line", "numbers"]
theorem st_between_rows (v0 v1 : V) : L2.start N_between_rows [v0, v1] = [some v0, some v1] := rfl
theorem sc_between_rows : FnScope N_between_rows ["line", "numbers"] (defScope s_between_rows) := ⟨rfl, rfl, rfl, by decide +kernel, rfl, by decide +kernel, by decide +kernel⟩
abbrev s_beneath_rows : Stmt := topS 61
abbrev N_beneath_rows : List Str := ["line", "numbers"]
theorem st_beneath_rows (v0 v1 : V) : L2.start N_beneath_rows [v0, v1] = [some v0, some v1] := rfl
theorem sc_beneath_rows : FnScope N_beneath_rows ["line", "numbers"] (defScope s_beneath_rows) := ⟨rfl, rfl, rfl, by decide +kernel, rfl, by decide +kernel, by decide +kernel⟩
abbrev s_within_rows : Stmt := topS 62
abbrev N_within_rows : List Str := ["line", "numbers", "place"]
theorem st_within_rows (v0 v1 : V) : L2.start N_within_rows [v0, v1] = [some v0, some v1, none] := rfl
theorem sc_within_rows : FnScope N_within_rows ["line", "numbers"] (defScope s_within_rows) := ⟨rfl, rfl, rfl, by decide +kernel, rfl, by decide +kernel, by decide +kernel⟩
abbrev s_order_rows : Stmt := topS 63
abbrev N_order_rows : List Str := ["line", "numbers"]
theorem st_order_rows (v0 v1 : V) : L2.start N_order_rows [v0, v1] = [some v0, some v1] := rfl
theorem sc_order_rows : FnScope N_order_rows ["line", "numbers"] (defScope s_order_rows) := ⟨rfl, rfl, rfl, by decide +kernel, rfl, by decide +kernel, by decide +kernel⟩
abbrev s_paper_rows : Stmt := topS 64
abbrev N_paper_rows : List Str := ["line", "numbers", "n", "total", "a", "b", "m"]
theorem st_paper_rows (v0 v1 : V) : L2.start N_paper_rows [v0, v1] = [some v0, some v1, none, none, none, none, none] := rfl
theorem sc_paper_rows : FnScope N_paper_rows ["line", "numbers"] (defScope s_paper_rows) := ⟨rfl, rfl, rfl, by decide +kernel, rfl, by decide +kernel, by decide +kernel⟩
abbrev s_check_name : Stmt := topS 67
abbrev N_check_name : List Str := ["word", "letters"]
theorem st_check_name (v0 : V) : L2.start N_check_name [v0] = [some v0, none] := rfl
theorem sc_check_name : FnScope N_check_name ["word"] (defScope s_check_name) := ⟨rfl, rfl, rfl, by decide +kernel, rfl, by decide +kernel, by decide +kernel⟩
abbrev s_read_number : Stmt := topS 68
abbrev N_read_number : List Str := ["word"]
theorem st_read_number (v0 : V) : L2.start N_read_number [v0] = [some v0] := rfl
theorem sc_read_number : FnScope N_read_number ["word"] (defScope s_read_number) := ⟨rfl, rfl, rfl, by decide +kernel, rfl, by decide +kernel, by decide +kernel⟩
abbrev s_read_count : Stmt := topS 69
abbrev N_read_count : List Str := ["word", "count"]
theorem st_read_count (v0 : V) : L2.start N_read_count [v0] = [some v0, none] := rfl
theorem sc_read_count : FnScope N_read_count ["word"] (defScope s_read_count) := ⟨rfl, rfl, rfl, by decide +kernel, rfl, by decide +kernel, by decide +kernel⟩
abbrev s_read_numbers : Stmt := topS 70
abbrev N_read_numbers : List Str := ["words", "form", "word", "kind"]
theorem st_read_numbers (v0 v1 : V) : L2.start N_read_numbers [v0, v1] = [some v0, some v1, none, none] := rfl
theorem sc_read_numbers : FnScope N_read_numbers ["words", "form"] (defScope s_read_numbers) := ⟨rfl, rfl, rfl, by decide +kernel, rfl, by decide +kernel, by decide +kernel⟩
abbrev s_parted_names : Stmt := topS 71
abbrev N_parted_names : List Str := ["words", "at", "above", "beneath"]
theorem st_parted_names (v0 : V) : L2.start N_parted_names [v0] = [some v0, none, none, none] := rfl
theorem sc_parted_names : FnScope N_parted_names ["words"] (defScope s_parted_names) := ⟨rfl, rfl, rfl, by decide +kernel, rfl, by decide +kernel, by decide +kernel⟩
abbrev s_shown : Stmt := topS 72
abbrev N_shown : List Str := ["rows", "row", "number"]
theorem st_shown (v0 : V) : L2.start N_shown [v0] = [some v0, none, none] := rfl
theorem sc_shown : FnScope N_shown ["rows"] (defScope s_shown) := ⟨rfl, rfl, rfl, by decide +kernel, rfl, by decide +kernel, by decide +kernel⟩
abbrev s_Desk_init : Stmt := inClass (topS 73) 0
abbrev N_Desk_init : List Str := ["self"]
theorem st_Desk_init (v0 : V) : L2.start N_Desk_init [v0] = [some v0] := rfl
theorem sc_Desk_init : FnScope N_Desk_init ["self"] (defScope s_Desk_init) := ⟨rfl, rfl, rfl, by decide +kernel, rfl, by decide +kernel, by decide +kernel⟩
abbrev s_Desk_put_line : Stmt := inClass (topS 73) 2
abbrev N_Desk_put_line : List Str := ["self", "words", "a", "b", "m", "line"]
theorem st_Desk_put_line (v0 v1 : V) : L2.start N_Desk_put_line [v0, v1] = [some v0, some v1, none, none, none, none] := rfl
theorem sc_Desk_put_line : FnScope N_Desk_put_line ["self", "words"] (defScope s_Desk_put_line) := ⟨rfl, rfl, rfl, by decide +kernel, rfl, by decide +kernel, by decide +kernel⟩
abbrev s_Desk_line_of : Stmt := inClass (topS 73) 3
abbrev N_Desk_line_of : List Str := ["self", "name"]
theorem st_Desk_line_of (v0 v1 : V) : L2.start N_Desk_line_of [v0, v1] = [some v0, some v1] := rfl
theorem sc_Desk_line_of : FnScope N_Desk_line_of ["self", "name"] (defScope s_Desk_line_of) := ⟨rfl, rfl, rfl, by decide +kernel, rfl, by decide +kernel, by decide +kernel⟩
abbrev s_Desk_points_rows : Stmt := inClass (topS 73) 4
abbrev N_Desk_points_rows : List Str := ["self", "words", "above_names", "beneath_names", "low", "high", "above", "beneath", "name"]
theorem st_Desk_points_rows (v0 v1 : V) : L2.start N_Desk_points_rows [v0, v1] = [some v0, some v1, none, none, none, none, none, none, none] := rfl
theorem sc_Desk_points_rows : FnScope N_Desk_points_rows ["self", "words"] (defScope s_Desk_points_rows) := ⟨rfl, rfl, rfl, by decide +kernel, rfl, by decide +kernel, by decide +kernel⟩
abbrev s_Desk_rows_of_one : Stmt := inClass (topS 73) 5
abbrev N_Desk_rows_of_one : List Str := ["self", "word", "words", "numbers", "line", "answer"]
theorem st_Desk_rows_of_one (v0 v1 v2 : V) : L2.start N_Desk_rows_of_one [v0, v1, v2] = [some v0, some v1, some v2, none, none, none] := rfl
theorem sc_Desk_rows_of_one : FnScope N_Desk_rows_of_one ["self", "word", "words"] (defScope s_Desk_rows_of_one) := ⟨rfl, rfl, rfl, by decide +kernel, rfl, by decide +kernel, by decide +kernel⟩
abbrev s_Desk_ask : Stmt := inClass (topS 73) 1
abbrev N_Desk_ask : List Str := ["self", "line", "words"]
theorem st_Desk_ask (v0 v1 : V) : L2.start N_Desk_ask [v0, v1] = [some v0, some v1, none] := rfl
theorem sc_Desk_ask : FnScope N_Desk_ask ["self", "line"] (defScope s_Desk_ask) := ⟨rfl, rfl, rfl, by decide +kernel, rfl, by decide +kernel, by decide +kernel⟩
abbrev s__law_draw : Stmt := topS 75
abbrev N__law_draw : List Str := ["script", "k", "many", "cell", "turn", "mixed"]
theorem st__law_draw (v0 v1 : V) : L2.start N__law_draw [v0, v1] = [some v0, some v1, none, none, none, none] := rfl
theorem sc__law_draw : FnScope N__law_draw ["script", "k"] (defScope s__law_draw) := ⟨rfl, rfl, rfl, by decide +kernel, rfl, by decide +kernel, by decide +kernel⟩
abbrev s__law_number : Stmt := topS 76
abbrev N__law_number : List Str := ["script", "at", "most", "figures", "k"]
theorem st__law_number (v0 v1 v2 : V) : L2.start N__law_number [v0, v1, v2] = [some v0, some v1, some v2, none, none] := rfl
theorem sc__law_number : FnScope N__law_number ["script", "at", "most"] (defScope s__law_number) := ⟨rfl, rfl, rfl, by decide +kernel, rfl, by decide +kernel, by decide +kernel⟩
abbrev s__law_line : Stmt := topS 77
abbrev N__law_line : List Str := ["script", "at", "most", "sizes", "a", "b", "m"]
theorem st__law_line (v0 v1 v2 : V) : L2.start N__law_line [v0, v1, v2] = [some v0, some v1, some v2, none, none, none, none] := rfl
theorem sc__law_line : FnScope N__law_line ["script", "at", "most"] (defScope s__law_line) := ⟨rfl, rfl, rfl, by decide +kernel, rfl, by decide +kernel, by decide +kernel⟩
abbrev s__law_name : Stmt := topS 78
abbrev N__law_name : List Str := ["script", "i", "letters", "pad", "place", "tail", "sign", "style"]
theorem st__law_name (v0 v1 : V) : L2.start N__law_name [v0, v1] = [some v0, some v1, none, none, none, none, none, none] := rfl
theorem sc__law_name : FnScope N__law_name ["script", "i"] (defScope s__law_name) := ⟨rfl, rfl, rfl, by decide +kernel, rfl, by decide +kernel, by decide +kernel⟩
abbrev s__law_line_text : Stmt := topS 79
abbrev N__law_line_text : List Str := ["line", "number"]
theorem st__law_line_text (v0 : V) : L2.start N__law_line_text [v0] = [some v0, none] := rfl
theorem sc__law_line_text : FnScope N__law_line_text ["line"] (defScope s__law_line_text) := ⟨rfl, rfl, rfl, by decide +kernel, rfl, by decide +kernel, by decide +kernel⟩
abbrev s__law_row : Stmt := topS 80
abbrev N__law_row : List Str := ["numbers", "number"]
theorem st__law_row (v0 : V) : L2.start N__law_row [v0] = [some v0, none] := rfl
theorem sc__law_row : FnScope N__law_row ["numbers"] (defScope s__law_row) := ⟨rfl, rfl, rfl, by decide +kernel, rfl, by decide +kernel, by decide +kernel⟩
abbrev s__law_lines : Stmt := topS 81
abbrev N__law_lines : List Str := ["script", "name", "line", "at", "n", "x", "y", "bound", "low", "found", "place", "rows", "one", "count", "there", "total", "word", "numbers", "due"]
theorem st__law_lines (v0 v1 v2 v3 : V) : L2.start N__law_lines [v0, v1, v2, v3] = [some v0, some v1, some v2, some v3, none, none, none, none, none, none, none, none, none, none, none, none, none, none, none] := rfl
theorem sc__law_lines : FnScope N__law_lines ["script", "name", "line", "at"] (defScope s__law_lines) := ⟨rfl, rfl, rfl, by decide +kernel, rfl, by decide +kernel, by decide +kernel⟩
abbrev s__law_told_right : Stmt := topS 82
abbrev N__law_told_right : List Str := ["desk", "lines", "held", "stood", "text", "due", "told", "again"]
theorem st__law_told_right (v0 v1 : V) : L2.start N__law_told_right [v0, v1] = [some v0, some v1, none, none, none, none, none, none] := rfl
theorem sc__law_told_right : FnScope N__law_told_right ["desk", "lines"] (defScope s__law_told_right) := ⟨rfl, rfl, rfl, by decide +kernel, rfl, by decide +kernel, by decide +kernel⟩
abbrev s_law : Stmt := topS 83
abbrev N_law : List Str := ["script", "desk", "name", "other", "turn", "line", "beneath", "high", "due"]
theorem st_law (v0 : V) : L2.start N_law [v0] = [some v0, none, none, none, none, none, none, none, none] := rfl
theorem sc_law : FnScope N_law ["script"] (defScope s_law) := ⟨rfl, rfl, rfl, by decide +kernel, rfl, by decide +kernel, by decide +kernel⟩
abbrev lq_in_order : Str := ("in_order" ++ ".<locals>.") ++ "<lambda>"
/-- what the top has written: each def, the names that are still the built-in ones -/
structure Top (w : World) (K : PySem.W.Frag) (mg : Str → Option Value) (base : Heap) where
  f_check_line : Addr
  fd_check_line : FuncData
  F_check_line : Fun K "check_line" "check_line" s_check_line f_check_line fd_check_line
  g_check_line : mg "check_line" = some (.ref f_check_line)
  f_height_at : Addr
  fd_height_at : FuncData
  F_height_at : Fun K "height_at" "height_at" s_height_at f_height_at fd_height_at
  g_height_at : mg "height_at" = some (.ref f_height_at)
  f_part_at : Addr
  fd_part_at : FuncData
  F_part_at : Fun K "part_at" "part_at" s_part_at f_part_at fd_part_at
  g_part_at : mg "part_at" = some (.ref f_part_at)
  f_rest_at : Addr
  fd_rest_at : FuncData
  F_rest_at : Fun K "rest_at" "rest_at" s_rest_at f_rest_at fd_rest_at
  g_rest_at : mg "rest_at" = some (.ref f_rest_at)
  f_laid_off : Addr
  fd_laid_off : FuncData
  F_laid_off : Fun K "laid_off" "laid_off" s_laid_off f_laid_off fd_laid_off
  g_laid_off : mg "laid_off" = some (.ref f_laid_off)
  f_turned : Addr
  fd_turned : FuncData
  F_turned : Fun K "turned" "turned" s_turned f_turned fd_turned
  g_turned : mg "turned" = some (.ref f_turned)
  f_is_number : Addr
  fd_is_number : FuncData
  F_is_number : Fun K "is_number" "is_number" s_is_number f_is_number fd_is_number
  g_is_number : mg "is_number" = some (.ref f_is_number)
  f_check_stretch : Addr
  fd_check_stretch : FuncData
  F_check_stretch : Fun K "check_stretch" "check_stretch" s_check_stretch f_check_stretch fd_check_stretch
  g_check_stretch : mg "check_stretch" = some (.ref f_check_stretch)
  f_sum_places : Addr
  fd_sum_places : FuncData
  F_sum_places : Fun K "sum_places" "sum_places" s_sum_places f_sum_places fd_sum_places
  g_sum_places : mg "sum_places" = some (.ref f_sum_places)
  f_sum_parts : Addr
  fd_sum_parts : FuncData
  F_sum_parts : Fun K "sum_parts" "sum_parts" s_sum_parts f_sum_parts fd_sum_parts
  g_sum_parts : mg "sum_parts" = some (.ref f_sum_parts)
  f_sum_rests : Addr
  fd_sum_rests : FuncData
  F_sum_rests : Fun K "sum_rests" "sum_rests" s_sum_rests f_sum_rests fd_sum_rests
  g_sum_rests : mg "sum_rests" = some (.ref f_sum_rests)
  f_sum_between : Addr
  fd_sum_between : FuncData
  F_sum_between : Fun K "sum_between" "sum_between" s_sum_between f_sum_between fd_sum_between
  g_sum_between : mg "sum_between" = some (.ref f_sum_between)
  f_paper_steps : Addr
  fd_paper_steps : FuncData
  F_paper_steps : Fun K "paper_steps" "paper_steps" s_paper_steps f_paper_steps fd_paper_steps
  g_paper_steps : mg "paper_steps" = some (.ref f_paper_steps)
  f_sum_paper : Addr
  fd_sum_paper : FuncData
  F_sum_paper : Fun K "sum_paper" "sum_paper" s_sum_paper f_sum_paper fd_sum_paper
  g_sum_paper : mg "sum_paper" = some (.ref f_sum_paper)
  f_rounded_up : Addr
  fd_rounded_up : FuncData
  F_rounded_up : Fun K "rounded_up" "rounded_up" s_rounded_up f_rounded_up fd_rounded_up
  g_rounded_up : mg "rounded_up" = some (.ref f_rounded_up)
  f_common_measure : Addr
  fd_common_measure : FuncData
  F_common_measure : Fun K "common_measure" "common_measure" s_common_measure f_common_measure fd_common_measure
  g_common_measure : mg "common_measure" = some (.ref f_common_measure)
  f_first_such : Addr
  fd_first_such : FuncData
  F_first_such : Fun K "first_such" "first_such" s_first_such f_first_such fd_first_such
  g_first_such : mg "first_such" = some (.ref f_first_such)
  f_check_between : Addr
  fd_check_between : FuncData
  F_check_between : Fun K "check_between" "check_between" s_check_between f_check_between fd_check_between
  g_check_between : mg "check_between" = some (.ref f_check_between)
  f_kept : Addr
  fd_kept : FuncData
  F_kept : Fun K "kept" "kept" s_kept f_kept fd_kept
  g_kept : mg "kept" = some (.ref f_kept)
  f_kept_no_higher : Addr
  fd_kept_no_higher : FuncData
  F_kept_no_higher : Fun K "kept_no_higher" "kept_no_higher" s_kept_no_higher f_kept_no_higher fd_kept_no_higher
  g_kept_no_higher : mg "kept_no_higher" = some (.ref f_kept_no_higher)
  f_stretch_between : Addr
  fd_stretch_between : FuncData
  F_stretch_between : Fun K "stretch_between" "stretch_between" s_stretch_between f_stretch_between fd_stretch_between
  g_stretch_between : mg "stretch_between" = some (.ref f_stretch_between)
  f_stretch_of_least : Addr
  fd_stretch_of_least : FuncData
  F_stretch_of_least : Fun K "stretch_of_least" "stretch_of_least" s_stretch_of_least f_stretch_of_least fd_stretch_of_least
  g_stretch_of_least : mg "stretch_of_least" = some (.ref f_stretch_of_least)
  f_sum_least : Addr
  fd_sum_least : FuncData
  F_sum_least : Fun K "sum_least" "sum_least" s_sum_least f_sum_least fd_sum_least
  g_sum_least : mg "sum_least" = some (.ref f_sum_least)
  f_upside_down : Addr
  fd_upside_down : FuncData
  F_upside_down : Fun K "upside_down" "upside_down" s_upside_down f_upside_down fd_upside_down
  g_upside_down : mg "upside_down" = some (.ref f_upside_down)
  f_count_points : Addr
  fd_count_points : FuncData
  F_count_points : Fun K "count_points" "count_points" s_count_points f_count_points fd_count_points
  g_count_points : mg "count_points" = some (.ref f_count_points)
  f_points_between : Addr
  fd_points_between : FuncData
  F_points_between : Fun K "points_between" "points_between" s_points_between f_points_between fd_points_between
  g_points_between : mg "points_between" = some (.ref f_points_between)
  f_rests_beneath : Addr
  fd_rests_beneath : FuncData
  F_rests_beneath : Fun K "rests_beneath" "rests_beneath" s_rests_beneath f_rests_beneath fd_rests_beneath
  g_rests_beneath : mg "rests_beneath" = some (.ref f_rests_beneath)
  f_first_multiple : Addr
  fd_first_multiple : FuncData
  F_first_multiple : Fun K "first_multiple" "first_multiple" s_first_multiple f_first_multiple fd_first_multiple
  g_first_multiple : mg "first_multiple" = some (.ref f_first_multiple)
  f_first_within : Addr
  fd_first_within : FuncData
  F_first_within : Fun K "first_within" "first_within" s_first_within f_first_within fd_first_within
  g_first_within : mg "first_within" = some (.ref f_first_within)
  f_in_order : Addr
  fd_in_order : FuncData
  F_in_order : Fun K "in_order" "in_order" s_in_order f_in_order fd_in_order
  g_in_order : mg "in_order" = some (.ref f_in_order)
  f_sum_place_squares : Addr
  fd_sum_place_squares : FuncData
  F_sum_place_squares : Fun K "sum_place_squares" "sum_place_squares" s_sum_place_squares f_sum_place_squares fd_sum_place_squares
  g_sum_place_squares : mg "sum_place_squares" = some (.ref f_sum_place_squares)
  f_sums_before_turning : Addr
  fd_sums_before_turning : FuncData
  F_sums_before_turning : Fun K "sums_before_turning" "sums_before_turning" s_sums_before_turning f_sums_before_turning fd_sums_before_turning
  g_sums_before_turning : mg "sums_before_turning" = some (.ref f_sums_before_turning)
  f_sums_before_laying_off : Addr
  fd_sums_before_laying_off : FuncData
  F_sums_before_laying_off : Fun K "sums_before_laying_off" "sums_before_laying_off" s_sums_before_laying_off f_sums_before_laying_off fd_sums_before_laying_off
  g_sums_before_laying_off : mg "sums_before_laying_off" = some (.ref f_sums_before_laying_off)
  f_part_sums : Addr
  fd_part_sums : FuncData
  F_part_sums : Fun K "part_sums" "part_sums" s_part_sums f_part_sums fd_part_sums
  g_part_sums : mg "part_sums" = some (.ref f_part_sums)
  f_sum_squares : Addr
  fd_sum_squares : FuncData
  F_sum_squares : Fun K "sum_squares" "sum_squares" s_sum_squares f_sum_squares fd_sum_squares
  g_sum_squares : mg "sum_squares" = some (.ref f_sum_squares)
  f_sum_placed : Addr
  fd_sum_placed : FuncData
  F_sum_placed : Fun K "sum_placed" "sum_placed" s_sum_placed f_sum_placed fd_sum_placed
  g_sum_placed : mg "sum_placed" = some (.ref f_sum_placed)
  f_part_rows : Addr
  fd_part_rows : FuncData
  F_part_rows : Fun K "part_rows" "part_rows" s_part_rows f_part_rows fd_part_rows
  g_part_rows : mg "part_rows" = some (.ref f_part_rows)
  f_rest_rows : Addr
  fd_rest_rows : FuncData
  F_rest_rows : Fun K "rest_rows" "rest_rows" s_rest_rows f_rest_rows fd_rest_rows
  g_rest_rows : mg "rest_rows" = some (.ref f_rest_rows)
  f_sum_rows : Addr
  fd_sum_rows : FuncData
  F_sum_rows : Fun K "sum_rows" "sum_rows" s_sum_rows f_sum_rows fd_sum_rows
  g_sum_rows : mg "sum_rows" = some (.ref f_sum_rows)
  f_rests_rows : Addr
  fd_rests_rows : FuncData
  F_rests_rows : Fun K "rests_rows" "rests_rows" s_rests_rows f_rests_rows fd_rests_rows
  g_rests_rows : mg "rests_rows" = some (.ref f_rests_rows)
  f_squares_rows : Addr
  fd_squares_rows : FuncData
  F_squares_rows : Fun K "squares_rows" "squares_rows" s_squares_rows f_squares_rows fd_squares_rows
  g_squares_rows : mg "squares_rows" = some (.ref f_squares_rows)
  f_placed_rows : Addr
  fd_placed_rows : FuncData
  F_placed_rows : Fun K "placed_rows" "placed_rows" s_placed_rows f_placed_rows fd_placed_rows
  g_placed_rows : mg "placed_rows" = some (.ref f_placed_rows)
  f_between_rows : Addr
  fd_between_rows : FuncData
  F_between_rows : Fun K "between_rows" "between_rows" s_between_rows f_between_rows fd_between_rows
  g_between_rows : mg "between_rows" = some (.ref f_between_rows)
  f_beneath_rows : Addr
  fd_beneath_rows : FuncData
  F_beneath_rows : Fun K "beneath_rows" "beneath_rows" s_beneath_rows f_beneath_rows fd_beneath_rows
  g_beneath_rows : mg "beneath_rows" = some (.ref f_beneath_rows)
  f_within_rows : Addr
  fd_within_rows : FuncData
  F_within_rows : Fun K "within_rows" "within_rows" s_within_rows f_within_rows fd_within_rows
  g_within_rows : mg "within_rows" = some (.ref f_within_rows)
  f_order_rows : Addr
  fd_order_rows : FuncData
  F_order_rows : Fun K "order_rows" "order_rows" s_order_rows f_order_rows fd_order_rows
  g_order_rows : mg "order_rows" = some (.ref f_order_rows)
  f_paper_rows : Addr
  fd_paper_rows : FuncData
  F_paper_rows : Fun K "paper_rows" "paper_rows" s_paper_rows f_paper_rows fd_paper_rows
  g_paper_rows : mg "paper_rows" = some (.ref f_paper_rows)
  f_check_name : Addr
  fd_check_name : FuncData
  F_check_name : Fun K "check_name" "check_name" s_check_name f_check_name fd_check_name
  g_check_name : mg "check_name" = some (.ref f_check_name)
  f_read_number : Addr
  fd_read_number : FuncData
  F_read_number : Fun K "read_number" "read_number" s_read_number f_read_number fd_read_number
  g_read_number : mg "read_number" = some (.ref f_read_number)
  f_read_count : Addr
  fd_read_count : FuncData
  F_read_count : Fun K "read_count" "read_count" s_read_count f_read_count fd_read_count
  g_read_count : mg "read_count" = some (.ref f_read_count)
  f_read_numbers : Addr
  fd_read_numbers : FuncData
  F_read_numbers : Fun K "read_numbers" "read_numbers" s_read_numbers f_read_numbers fd_read_numbers
  g_read_numbers : mg "read_numbers" = some (.ref f_read_numbers)
  f_parted_names : Addr
  fd_parted_names : FuncData
  F_parted_names : Fun K "parted_names" "parted_names" s_parted_names f_parted_names fd_parted_names
  g_parted_names : mg "parted_names" = some (.ref f_parted_names)
  f_shown : Addr
  fd_shown : FuncData
  F_shown : Fun K "shown" "shown" s_shown f_shown fd_shown
  g_shown : mg "shown" = some (.ref f_shown)
  f_Desk_init : Addr
  fd_Desk_init : FuncData
  F_Desk_init : Fun K "__init__" "Desk.__init__" s_Desk_init f_Desk_init fd_Desk_init
  f_Desk_put_line : Addr
  fd_Desk_put_line : FuncData
  F_Desk_put_line : Fun K "put_line" "Desk.put_line" s_Desk_put_line f_Desk_put_line fd_Desk_put_line
  f_Desk_line_of : Addr
  fd_Desk_line_of : FuncData
  F_Desk_line_of : Fun K "line_of" "Desk.line_of" s_Desk_line_of f_Desk_line_of fd_Desk_line_of
  f_Desk_points_rows : Addr
  fd_Desk_points_rows : FuncData
  F_Desk_points_rows : Fun K "points_rows" "Desk.points_rows" s_Desk_points_rows f_Desk_points_rows fd_Desk_points_rows
  f_Desk_rows_of_one : Addr
  fd_Desk_rows_of_one : FuncData
  F_Desk_rows_of_one : Fun K "rows_of_one" "Desk.rows_of_one" s_Desk_rows_of_one f_Desk_rows_of_one fd_Desk_rows_of_one
  f_Desk_ask : Addr
  fd_Desk_ask : FuncData
  F_Desk_ask : Fun K "ask" "Desk.ask" s_Desk_ask f_Desk_ask fd_Desk_ask
  f__law_draw : Addr
  fd__law_draw : FuncData
  F__law_draw : Fun K "_law_draw" "_law_draw" s__law_draw f__law_draw fd__law_draw
  g__law_draw : mg "_law_draw" = some (.ref f__law_draw)
  f__law_number : Addr
  fd__law_number : FuncData
  F__law_number : Fun K "_law_number" "_law_number" s__law_number f__law_number fd__law_number
  g__law_number : mg "_law_number" = some (.ref f__law_number)
  f__law_line : Addr
  fd__law_line : FuncData
  F__law_line : Fun K "_law_line" "_law_line" s__law_line f__law_line fd__law_line
  g__law_line : mg "_law_line" = some (.ref f__law_line)
  f__law_name : Addr
  fd__law_name : FuncData
  F__law_name : Fun K "_law_name" "_law_name" s__law_name f__law_name fd__law_name
  g__law_name : mg "_law_name" = some (.ref f__law_name)
  f__law_line_text : Addr
  fd__law_line_text : FuncData
  F__law_line_text : Fun K "_law_line_text" "_law_line_text" s__law_line_text f__law_line_text fd__law_line_text
  g__law_line_text : mg "_law_line_text" = some (.ref f__law_line_text)
  f__law_row : Addr
  fd__law_row : FuncData
  F__law_row : Fun K "_law_row" "_law_row" s__law_row f__law_row fd__law_row
  g__law_row : mg "_law_row" = some (.ref f__law_row)
  f__law_lines : Addr
  fd__law_lines : FuncData
  F__law_lines : Fun K "_law_lines" "_law_lines" s__law_lines f__law_lines fd__law_lines
  g__law_lines : mg "_law_lines" = some (.ref f__law_lines)
  f__law_told_right : Addr
  fd__law_told_right : FuncData
  F__law_told_right : Fun K "_law_told_right" "_law_told_right" s__law_told_right f__law_told_right fd__law_told_right
  g__law_told_right : mg "_law_told_right" = some (.ref f__law_told_right)
  f_law : Addr
  fd_law : FuncData
  F_law : Fun K "law" "law" s_law f_law fd_law
  g_law : mg "law" = some (.ref f_law)
  c_Desk : Addr
  g_Desk : mg "Desk" = some (.ref c_Desk)
  cl_Desk : Cls K c_Desk
  na_lines : NoAttr K c_Desk "lines"
  mk_Desk : Mk K c_Desk f_Desk_init
  m_Desk_put_line : Meth K c_Desk "put_line" f_Desk_put_line
  m_Desk_line_of : Meth K c_Desk "line_of" f_Desk_line_of
  m_Desk_points_rows : Meth K c_Desk "points_rows" f_Desk_points_rows
  m_Desk_rows_of_one : Meth K c_Desk "rows_of_one" f_Desk_rows_of_one
  m_Desk_ask : Meth K c_Desk "ask" f_Desk_ask
  n_abs : mg "abs" = none
  n_divmod : mg "divmod" = none
  n_enumerate : mg "enumerate" = none
  n_int : mg "int" = none
  n_len : mg "len" = none
  n_list : mg "list" = none
  n_max : mg "max" = none
  n_min : mg "min" = none
  n_range : mg "range" = none
  n_reversed : mg "reversed" = none
  n_str : mg "str" = none
  n_tuple : mg "tuple" = none
  n_zip : mg "zip" = none
  u_MOST_FIGURES : Value
  g_MOST_FIGURES : mg "MOST_FIGURES" = some u_MOST_FIGURES
  r_MOST_FIGURES : RelV (.int 60) u_MOST_FIGURES
  u_MOST_LETTERS : Value
  g_MOST_LETTERS : mg "MOST_LETTERS" = some u_MOST_LETTERS
  r_MOST_LETTERS : RelV (.int 8) u_MOST_LETTERS
  u_MOST_NAMES : Value
  g_MOST_NAMES : mg "MOST_NAMES" = some u_MOST_NAMES
  r_MOST_NAMES : RelV (.int 4) u_MOST_NAMES
  d_FORMS : Addr
  g_FORMS : mg "FORMS" = some (.ref d_FORMS)
  es_FORMS : Array DictEntry
  ne_FORMS : Nat
  kd_FORMS : KDict K w d_FORMS es_FORMS ne_FORMS
  k_FORMS_part : ∃ t, PySem.W.nsIn K d_FORMS "part" = some (some (.str "X" t))
  k_FORMS_rest : ∃ t, PySem.W.nsIn K d_FORMS "rest" = some (some (.str "X" t))
  k_FORMS_sum : ∃ t, PySem.W.nsIn K d_FORMS "sum" = some (some (.str "N" t))
  k_FORMS_rests : ∃ t, PySem.W.nsIn K d_FORMS "rests" = some (some (.str "N" t))
  k_FORMS_squares : ∃ t, PySem.W.nsIn K d_FORMS "squares" = some (some (.str "N" t))
  k_FORMS_placed : ∃ t, PySem.W.nsIn K d_FORMS "placed" = some (some (.str "N" t))
  k_FORMS_between : ∃ t, PySem.W.nsIn K d_FORMS "between" = some (some (.str "XX" t))
  k_FORMS_beneath : ∃ t, PySem.W.nsIn K d_FORMS "beneath" = some (some (.str "NX" t))
  k_FORMS_within : ∃ t, PySem.W.nsIn K d_FORMS "within" = some (some (.str "XX" t))
  k_FORMS_order : ∃ t, PySem.W.nsIn K d_FORMS "order" = some (some (.str "NX" t))
  k_FORMS_paper : ∃ t, PySem.W.nsIn K d_FORMS "paper" = some (some (.str "N" t))
  d_ANSWERS : Addr
  g_ANSWERS : mg "ANSWERS" = some (.ref d_ANSWERS)
  es_ANSWERS : Array DictEntry
  ne_ANSWERS : Nat
  kd_ANSWERS : KDict K w d_ANSWERS es_ANSWERS ne_ANSWERS
  k_ANSWERS_part : PySem.W.nsIn K d_ANSWERS "part" = some (some (.ref f_part_rows))
  k_ANSWERS_rest : PySem.W.nsIn K d_ANSWERS "rest" = some (some (.ref f_rest_rows))
  k_ANSWERS_sum : PySem.W.nsIn K d_ANSWERS "sum" = some (some (.ref f_sum_rows))
  k_ANSWERS_rests : PySem.W.nsIn K d_ANSWERS "rests" = some (some (.ref f_rests_rows))
  k_ANSWERS_squares : PySem.W.nsIn K d_ANSWERS "squares" = some (some (.ref f_squares_rows))
  k_ANSWERS_placed : PySem.W.nsIn K d_ANSWERS "placed" = some (some (.ref f_placed_rows))
  k_ANSWERS_between : PySem.W.nsIn K d_ANSWERS "between" = some (some (.ref f_between_rows))
  k_ANSWERS_beneath : PySem.W.nsIn K d_ANSWERS "beneath" = some (some (.ref f_beneath_rows))
  k_ANSWERS_within : PySem.W.nsIn K d_ANSWERS "within" = some (some (.ref f_within_rows))
  k_ANSWERS_order : PySem.W.nsIn K d_ANSWERS "order" = some (some (.ref f_order_rows))
  k_ANSWERS_paper : PySem.W.nsIn K d_ANSWERS "paper" = some (some (.ref f_paper_rows))
  nd_tab : [f_part_rows, f_rest_rows, f_sum_rows, f_rests_rows, f_squares_rows, f_placed_rows, f_between_rows, f_beneath_rows, f_within_rows, f_order_rows, f_paper_rows].Nodup
  c_in_order_ : Addr
  p_in_order_ : Addr
  k_in_order_ : fd_in_order.code = .ref c_in_order_
  t_in_order_ : LamX.TabB base mg c_in_order_ p_in_order_
theorem Top.b_check_line {w : World} {K : PySem.W.Frag} {mg : Str → Option Value} {base : Heap} (T : Top w K mg base) : Binds K T.fd_check_line ["line"] [] := T.F_check_line.binds fun _ _ _ _ _ _ us hl => match us, hl with | [_], _ => rfl
theorem Top.b_height_at {w : World} {K : PySem.W.Frag} {mg : Str → Option Value} {base : Heap} (T : Top w K mg base) : Binds K T.fd_height_at ["line", "place"] [] := T.F_height_at.binds fun _ _ _ _ _ _ us hl => match us, hl with | [_, _], _ => rfl
theorem Top.b_part_at {w : World} {K : PySem.W.Frag} {mg : Str → Option Value} {base : Heap} (T : Top w K mg base) : Binds K T.fd_part_at ["line", "place"] [] := T.F_part_at.binds fun _ _ _ _ _ _ us hl => match us, hl with | [_, _], _ => rfl
theorem Top.b_rest_at {w : World} {K : PySem.W.Frag} {mg : Str → Option Value} {base : Heap} (T : Top w K mg base) : Binds K T.fd_rest_at ["line", "place"] [] := T.F_rest_at.binds fun _ _ _ _ _ _ us hl => match us, hl with | [_, _], _ => rfl
theorem Top.b_laid_off {w : World} {K : PySem.W.Frag} {mg : Str → Option Value} {base : Heap} (T : Top w K mg base) : Binds K T.fd_laid_off ["line"] [] := T.F_laid_off.binds fun _ _ _ _ _ _ us hl => match us, hl with | [_], _ => rfl
theorem Top.b_turned {w : World} {K : PySem.W.Frag} {mg : Str → Option Value} {base : Heap} (T : Top w K mg base) : Binds K T.fd_turned ["line", "n"] [] := T.F_turned.binds fun _ _ _ _ _ _ us hl => match us, hl with | [_, _], _ => rfl
theorem Top.b_is_number {w : World} {K : PySem.W.Frag} {mg : Str → Option Value} {base : Heap} (T : Top w K mg base) : Binds K T.fd_is_number ["word"] [] := T.F_is_number.binds fun _ _ _ _ _ _ us hl => match us, hl with | [_], _ => rfl
theorem Top.b_check_stretch {w : World} {K : PySem.W.Frag} {mg : Str → Option Value} {base : Heap} (T : Top w K mg base) : Binds K T.fd_check_stretch ["low", "high"] [] := T.F_check_stretch.binds fun _ _ _ _ _ _ us hl => match us, hl with | [_, _], _ => rfl
theorem Top.b_sum_places {w : World} {K : PySem.W.Frag} {mg : Str → Option Value} {base : Heap} (T : Top w K mg base) : Binds K T.fd_sum_places ["n"] [] := T.F_sum_places.binds fun _ _ _ _ _ _ us hl => match us, hl with | [_], _ => rfl
theorem Top.b_sum_parts {w : World} {K : PySem.W.Frag} {mg : Str → Option Value} {base : Heap} (T : Top w K mg base) : Binds K T.fd_sum_parts ["line", "n"] [] := T.F_sum_parts.binds fun _ _ _ _ _ _ us hl => match us, hl with | [_, _], _ => rfl
theorem Top.b_sum_rests {w : World} {K : PySem.W.Frag} {mg : Str → Option Value} {base : Heap} (T : Top w K mg base) : Binds K T.fd_sum_rests ["line", "n"] [] := T.F_sum_rests.binds fun _ _ _ _ _ _ us hl => match us, hl with | [_, _], _ => rfl
theorem Top.b_sum_between {w : World} {K : PySem.W.Frag} {mg : Str → Option Value} {base : Heap} (T : Top w K mg base) : Binds K T.fd_sum_between ["line", "low", "high"] [] := T.F_sum_between.binds fun _ _ _ _ _ _ us hl => match us, hl with | [_, _, _], _ => rfl
theorem Top.b_paper_steps {w : World} {K : PySem.W.Frag} {mg : Str → Option Value} {base : Heap} (T : Top w K mg base) : Binds K T.fd_paper_steps ["line", "n"] [] := T.F_paper_steps.binds fun _ _ _ _ _ _ us hl => match us, hl with | [_, _], _ => rfl
theorem Top.b_sum_paper {w : World} {K : PySem.W.Frag} {mg : Str → Option Value} {base : Heap} (T : Top w K mg base) : Binds K T.fd_sum_paper ["line", "n"] [] := T.F_sum_paper.binds fun _ _ _ _ _ _ us hl => match us, hl with | [_, _], _ => rfl
theorem Top.b_rounded_up {w : World} {K : PySem.W.Frag} {mg : Str → Option Value} {base : Heap} (T : Top w K mg base) : Binds K T.fd_rounded_up ["number", "by"] [] := T.F_rounded_up.binds fun _ _ _ _ _ _ us hl => match us, hl with | [_, _], _ => rfl
theorem Top.b_common_measure {w : World} {K : PySem.W.Frag} {mg : Str → Option Value} {base : Heap} (T : Top w K mg base) : Binds K T.fd_common_measure ["a", "m"] [] := T.F_common_measure.binds fun _ _ _ _ _ _ us hl => match us, hl with | [_, _], _ => rfl
theorem Top.b_first_such {w : World} {K : PySem.W.Frag} {mg : Str → Option Value} {base : Heap} (T : Top w K mg base) : Binds K T.fd_first_such ["low", "high", "is_such"] [] := T.F_first_such.binds fun _ _ _ _ _ _ us hl => match us, hl with | [_, _, _], _ => rfl
theorem Top.b_check_between {w : World} {K : PySem.W.Frag} {mg : Str → Option Value} {base : Heap} (T : Top w K mg base) : Binds K T.fd_check_between ["above", "beneath", "low", "high"] [] := T.F_check_between.binds fun _ _ _ _ _ _ us hl => match us, hl with | [_, _, _, _], _ => rfl
theorem Top.b_kept {w : World} {K : PySem.W.Frag} {mg : Str → Option Value} {base : Heap} (T : Top w K mg base) : Binds K T.fd_kept ["stretch", "c", "d"] [] := T.F_kept.binds fun _ _ _ _ _ _ us hl => match us, hl with | [_, _, _], _ => rfl
theorem Top.b_kept_no_higher {w : World} {K : PySem.W.Frag} {mg : Str → Option Value} {base : Heap} (T : Top w K mg base) : Binds K T.fd_kept_no_higher ["stretch", "line", "other", "gap"] [] := T.F_kept_no_higher.binds fun _ _ _ _ _ _ us hl => match us, hl with | [_, _, _, _], _ => rfl
theorem Top.b_stretch_between {w : World} {K : PySem.W.Frag} {mg : Str → Option Value} {base : Heap} (T : Top w K mg base) : Binds K T.fd_stretch_between ["above", "beneath", "low", "high"] [] := T.F_stretch_between.binds fun _ _ _ _ _ _ us hl => match us, hl with | [_, _, _, _], _ => rfl
theorem Top.b_stretch_of_least {w : World} {K : PySem.W.Frag} {mg : Str → Option Value} {base : Heap} (T : Top w K mg base) : Binds K T.fd_stretch_of_least ["lines", "at", "stretch"] [] := T.F_stretch_of_least.binds fun _ _ _ _ _ _ us hl => match us, hl with | [_, _, _], _ => rfl
theorem Top.b_sum_least {w : World} {K : PySem.W.Frag} {mg : Str → Option Value} {base : Heap} (T : Top w K mg base) : Binds K T.fd_sum_least ["lines", "stretch"] [] := T.F_sum_least.binds fun _ _ _ _ _ _ us hl => match us, hl with | [_, _], _ => rfl
theorem Top.b_upside_down {w : World} {K : PySem.W.Frag} {mg : Str → Option Value} {base : Heap} (T : Top w K mg base) : Binds K T.fd_upside_down ["lines"] [] := T.F_upside_down.binds fun _ _ _ _ _ _ us hl => match us, hl with | [_], _ => rfl
theorem Top.b_count_points {w : World} {K : PySem.W.Frag} {mg : Str → Option Value} {base : Heap} (T : Top w K mg base) : Binds K T.fd_count_points ["above", "beneath", "stretch"] [] := T.F_count_points.binds fun _ _ _ _ _ _ us hl => match us, hl with | [_, _, _], _ => rfl
theorem Top.b_points_between {w : World} {K : PySem.W.Frag} {mg : Str → Option Value} {base : Heap} (T : Top w K mg base) : Binds K T.fd_points_between ["above", "beneath", "low", "high"] [] := T.F_points_between.binds fun _ _ _ _ _ _ us hl => match us, hl with | [_, _, _, _], _ => rfl
theorem Top.b_rests_beneath {w : World} {K : PySem.W.Frag} {mg : Str → Option Value} {base : Heap} (T : Top w K mg base) : Binds K T.fd_rests_beneath ["line", "n", "bound"] [] := T.F_rests_beneath.binds fun _ _ _ _ _ _ us hl => match us, hl with | [_, _, _], _ => rfl
theorem Top.b_first_multiple {w : World} {K : PySem.W.Frag} {mg : Str → Option Value} {base : Heap} (T : Top w K mg base) : Binds K T.fd_first_multiple ["a", "m", "low", "high"] [] := T.F_first_multiple.binds fun _ _ _ _ _ _ us hl => match us, hl with | [_, _, _, _], _ => rfl
theorem Top.b_first_within {w : World} {K : PySem.W.Frag} {mg : Str → Option Value} {base : Heap} (T : Top w K mg base) : Binds K T.fd_first_within ["line", "low", "high"] [] := T.F_first_within.binds fun _ _ _ _ _ _ us hl => match us, hl with | [_, _, _], _ => rfl
theorem Top.b_in_order {w : World} {K : PySem.W.Frag} {mg : Str → Option Value} {base : Heap} (T : Top w K mg base) : Binds K T.fd_in_order ["line", "n", "number"] [] := T.F_in_order.binds fun _ _ _ _ _ _ us hl => match us, hl with | [_, _, _], _ => rfl
theorem Top.b_sum_place_squares {w : World} {K : PySem.W.Frag} {mg : Str → Option Value} {base : Heap} (T : Top w K mg base) : Binds K T.fd_sum_place_squares ["n"] [] := T.F_sum_place_squares.binds fun _ _ _ _ _ _ us hl => match us, hl with | [_], _ => rfl
theorem Top.b_sums_before_turning {w : World} {K : PySem.W.Frag} {mg : Str → Option Value} {base : Heap} (T : Top w K mg base) : Binds K T.fd_sums_before_turning ["n", "k", "sums"] [] := T.F_sums_before_turning.binds fun _ _ _ _ _ _ us hl => match us, hl with | [_, _, _], _ => rfl
theorem Top.b_sums_before_laying_off {w : World} {K : PySem.W.Frag} {mg : Str → Option Value} {base : Heap} (T : Top w K mg base) : Binds K T.fd_sums_before_laying_off ["n", "q", "r", "sums"] [] := T.F_sums_before_laying_off.binds fun _ _ _ _ _ _ us hl => match us, hl with | [_, _, _, _], _ => rfl
theorem Top.b_part_sums {w : World} {K : PySem.W.Frag} {mg : Str → Option Value} {base : Heap} (T : Top w K mg base) : Binds K T.fd_part_sums ["line", "n"] [] := T.F_part_sums.binds fun _ _ _ _ _ _ us hl => match us, hl with | [_, _], _ => rfl
theorem Top.b_sum_squares {w : World} {K : PySem.W.Frag} {mg : Str → Option Value} {base : Heap} (T : Top w K mg base) : Binds K T.fd_sum_squares ["line", "n"] [] := T.F_sum_squares.binds fun _ _ _ _ _ _ us hl => match us, hl with | [_, _], _ => rfl
theorem Top.b_sum_placed {w : World} {K : PySem.W.Frag} {mg : Str → Option Value} {base : Heap} (T : Top w K mg base) : Binds K T.fd_sum_placed ["line", "n"] [] := T.F_sum_placed.binds fun _ _ _ _ _ _ us hl => match us, hl with | [_, _], _ => rfl
theorem Top.b_part_rows {w : World} {K : PySem.W.Frag} {mg : Str → Option Value} {base : Heap} (T : Top w K mg base) : Binds K T.fd_part_rows ["line", "numbers"] [] := T.F_part_rows.binds fun _ _ _ _ _ _ us hl => match us, hl with | [_, _], _ => rfl
theorem Top.b_rest_rows {w : World} {K : PySem.W.Frag} {mg : Str → Option Value} {base : Heap} (T : Top w K mg base) : Binds K T.fd_rest_rows ["line", "numbers"] [] := T.F_rest_rows.binds fun _ _ _ _ _ _ us hl => match us, hl with | [_, _], _ => rfl
theorem Top.b_sum_rows {w : World} {K : PySem.W.Frag} {mg : Str → Option Value} {base : Heap} (T : Top w K mg base) : Binds K T.fd_sum_rows ["line", "numbers"] [] := T.F_sum_rows.binds fun _ _ _ _ _ _ us hl => match us, hl with | [_, _], _ => rfl
theorem Top.b_rests_rows {w : World} {K : PySem.W.Frag} {mg : Str → Option Value} {base : Heap} (T : Top w K mg base) : Binds K T.fd_rests_rows ["line", "numbers"] [] := T.F_rests_rows.binds fun _ _ _ _ _ _ us hl => match us, hl with | [_, _], _ => rfl
theorem Top.b_squares_rows {w : World} {K : PySem.W.Frag} {mg : Str → Option Value} {base : Heap} (T : Top w K mg base) : Binds K T.fd_squares_rows ["line", "numbers"] [] := T.F_squares_rows.binds fun _ _ _ _ _ _ us hl => match us, hl with | [_, _], _ => rfl
theorem Top.b_placed_rows {w : World} {K : PySem.W.Frag} {mg : Str → Option Value} {base : Heap} (T : Top w K mg base) : Binds K T.fd_placed_rows ["line", "numbers"] [] := T.F_placed_rows.binds fun _ _ _ _ _ _ us hl => match us, hl with | [_, _], _ => rfl
theorem Top.b_between_rows {w : World} {K : PySem.W.Frag} {mg : Str → Option Value} {base : Heap} (T : Top w K mg base) : Binds K T.fd_between_rows ["line", "numbers"] [] := T.F_between_rows.binds fun _ _ _ _ _ _ us hl => match us, hl with | [_, _], _ => rfl
theorem Top.b_beneath_rows {w : World} {K : PySem.W.Frag} {mg : Str → Option Value} {base : Heap} (T : Top w K mg base) : Binds K T.fd_beneath_rows ["line", "numbers"] [] := T.F_beneath_rows.binds fun _ _ _ _ _ _ us hl => match us, hl with | [_, _], _ => rfl
theorem Top.b_within_rows {w : World} {K : PySem.W.Frag} {mg : Str → Option Value} {base : Heap} (T : Top w K mg base) : Binds K T.fd_within_rows ["line", "numbers"] [] := T.F_within_rows.binds fun _ _ _ _ _ _ us hl => match us, hl with | [_, _], _ => rfl
theorem Top.b_order_rows {w : World} {K : PySem.W.Frag} {mg : Str → Option Value} {base : Heap} (T : Top w K mg base) : Binds K T.fd_order_rows ["line", "numbers"] [] := T.F_order_rows.binds fun _ _ _ _ _ _ us hl => match us, hl with | [_, _], _ => rfl
theorem Top.b_paper_rows {w : World} {K : PySem.W.Frag} {mg : Str → Option Value} {base : Heap} (T : Top w K mg base) : Binds K T.fd_paper_rows ["line", "numbers"] [] := T.F_paper_rows.binds fun _ _ _ _ _ _ us hl => match us, hl with | [_, _], _ => rfl
theorem Top.b_check_name {w : World} {K : PySem.W.Frag} {mg : Str → Option Value} {base : Heap} (T : Top w K mg base) : Binds K T.fd_check_name ["word"] [] := T.F_check_name.binds fun _ _ _ _ _ _ us hl => match us, hl with | [_], _ => rfl
theorem Top.b_read_number {w : World} {K : PySem.W.Frag} {mg : Str → Option Value} {base : Heap} (T : Top w K mg base) : Binds K T.fd_read_number ["word"] [] := T.F_read_number.binds fun _ _ _ _ _ _ us hl => match us, hl with | [_], _ => rfl
theorem Top.b_read_count {w : World} {K : PySem.W.Frag} {mg : Str → Option Value} {base : Heap} (T : Top w K mg base) : Binds K T.fd_read_count ["word"] [] := T.F_read_count.binds fun _ _ _ _ _ _ us hl => match us, hl with | [_], _ => rfl
theorem Top.b_read_numbers {w : World} {K : PySem.W.Frag} {mg : Str → Option Value} {base : Heap} (T : Top w K mg base) : Binds K T.fd_read_numbers ["words", "form"] [] := T.F_read_numbers.binds fun _ _ _ _ _ _ us hl => match us, hl with | [_, _], _ => rfl
theorem Top.b_parted_names {w : World} {K : PySem.W.Frag} {mg : Str → Option Value} {base : Heap} (T : Top w K mg base) : Binds K T.fd_parted_names ["words"] [] := T.F_parted_names.binds fun _ _ _ _ _ _ us hl => match us, hl with | [_], _ => rfl
theorem Top.b_shown {w : World} {K : PySem.W.Frag} {mg : Str → Option Value} {base : Heap} (T : Top w K mg base) : Binds K T.fd_shown ["rows"] [] := T.F_shown.binds fun _ _ _ _ _ _ us hl => match us, hl with | [_], _ => rfl
theorem Top.b_Desk_init {w : World} {K : PySem.W.Frag} {mg : Str → Option Value} {base : Heap} (T : Top w K mg base) : Binds K T.fd_Desk_init ["self"] [] := T.F_Desk_init.binds fun _ _ _ _ _ _ us hl => match us, hl with | [_], _ => rfl
theorem Top.b_Desk_put_line {w : World} {K : PySem.W.Frag} {mg : Str → Option Value} {base : Heap} (T : Top w K mg base) : Binds K T.fd_Desk_put_line ["self", "words"] [] := T.F_Desk_put_line.binds fun _ _ _ _ _ _ us hl => match us, hl with | [_, _], _ => rfl
theorem Top.b_Desk_line_of {w : World} {K : PySem.W.Frag} {mg : Str → Option Value} {base : Heap} (T : Top w K mg base) : Binds K T.fd_Desk_line_of ["self", "name"] [] := T.F_Desk_line_of.binds fun _ _ _ _ _ _ us hl => match us, hl with | [_, _], _ => rfl
theorem Top.b_Desk_points_rows {w : World} {K : PySem.W.Frag} {mg : Str → Option Value} {base : Heap} (T : Top w K mg base) : Binds K T.fd_Desk_points_rows ["self", "words"] [] := T.F_Desk_points_rows.binds fun _ _ _ _ _ _ us hl => match us, hl with | [_, _], _ => rfl
theorem Top.b_Desk_rows_of_one {w : World} {K : PySem.W.Frag} {mg : Str → Option Value} {base : Heap} (T : Top w K mg base) : Binds K T.fd_Desk_rows_of_one ["self", "word", "words"] [] := T.F_Desk_rows_of_one.binds fun _ _ _ _ _ _ us hl => match us, hl with | [_, _, _], _ => rfl
theorem Top.b_Desk_ask {w : World} {K : PySem.W.Frag} {mg : Str → Option Value} {base : Heap} (T : Top w K mg base) : Binds K T.fd_Desk_ask ["self", "line"] [] := T.F_Desk_ask.binds fun _ _ _ _ _ _ us hl => match us, hl with | [_, _], _ => rfl
theorem Top.b__law_draw {w : World} {K : PySem.W.Frag} {mg : Str → Option Value} {base : Heap} (T : Top w K mg base) : Binds K T.fd__law_draw ["script", "k"] [] := T.F__law_draw.binds fun _ _ _ _ _ _ us hl => match us, hl with | [_, _], _ => rfl
theorem Top.b__law_number {w : World} {K : PySem.W.Frag} {mg : Str → Option Value} {base : Heap} (T : Top w K mg base) : Binds K T.fd__law_number ["script", "at", "most"] [] := T.F__law_number.binds fun _ _ _ _ _ _ us hl => match us, hl with | [_, _, _], _ => rfl
theorem Top.b__law_line {w : World} {K : PySem.W.Frag} {mg : Str → Option Value} {base : Heap} (T : Top w K mg base) : Binds K T.fd__law_line ["script", "at", "most"] [] := T.F__law_line.binds fun _ _ _ _ _ _ us hl => match us, hl with | [_, _, _], _ => rfl
theorem Top.b__law_name {w : World} {K : PySem.W.Frag} {mg : Str → Option Value} {base : Heap} (T : Top w K mg base) : Binds K T.fd__law_name ["script", "i"] [] := T.F__law_name.binds fun _ _ _ _ _ _ us hl => match us, hl with | [_, _], _ => rfl
theorem Top.b__law_line_text {w : World} {K : PySem.W.Frag} {mg : Str → Option Value} {base : Heap} (T : Top w K mg base) : Binds K T.fd__law_line_text ["line"] [] := T.F__law_line_text.binds fun _ _ _ _ _ _ us hl => match us, hl with | [_], _ => rfl
theorem Top.b__law_row {w : World} {K : PySem.W.Frag} {mg : Str → Option Value} {base : Heap} (T : Top w K mg base) : Binds K T.fd__law_row ["numbers"] [] := T.F__law_row.binds fun _ _ _ _ _ _ us hl => match us, hl with | [_], _ => rfl
theorem Top.b__law_lines {w : World} {K : PySem.W.Frag} {mg : Str → Option Value} {base : Heap} (T : Top w K mg base) : Binds K T.fd__law_lines ["script", "name", "line", "at"] [] := T.F__law_lines.binds fun _ _ _ _ _ _ us hl => match us, hl with | [_, _, _, _], _ => rfl
theorem Top.b__law_told_right {w : World} {K : PySem.W.Frag} {mg : Str → Option Value} {base : Heap} (T : Top w K mg base) : Binds K T.fd__law_told_right ["desk", "lines"] [] := T.F__law_told_right.binds fun _ _ _ _ _ _ us hl => match us, hl with | [_, _], _ => rfl
/-! ### check_line -/

def sp_check_line (K : PySem.W.Frag) : Sp := fun vs H Q _ => ∃ (p : Addr) (a b m : Int), vs = [.ref p] ∧ SqT K H p [.int a, .int b, .int m] ∧ 0 < m ∧ Q .non H
theorem ok_check_line {P : Program} {w : World} {K : PySem.W.Frag} {mg : Str → Option Value} {base : Heap} (T : Top w K mg base) : FnOk P w K mg base CX0 1 T.f_check_line T.fd_check_line ["line"] (sp_check_line K) := by
  refine T.F_check_line.ok sc_check_line (fun vs H Q E h => ?_) (fun cdv A outer s H vs Q E hr h => ?_)
  · rcases h with ⟨p, a, b, m, rfl, _⟩ <;> rfl
  · obtain ⟨p, a, b, m, rfl, hS, hm, q⟩ := h
    refine ⟨_, (pss_one (ps_if (pt_cmpR op_lt (pe_ix ix_tup (pv 0) pe_int (fun _ _ => rfl)) pe_int (nomark _)) (pss_one ps_never) pss_nil)), ?_⟩
    try rw [st_check_line]

    (repeat (first | (with_reducible first | refine r_v0 ?_ | refine r_C ?_ | refine r_op ?_ | refine r_I0 ?_ | refine r_if ?_ | refine r_test ?_ | refine r_bl ?_) | ((with_reducible refine' r_ixT ?zzs ?zze ?_); (case zzs => assumption); (case zze => exact rfl))))
    refine r_ite (fun h => ?_) (fun h => ?_)
    · exact absurd hm (by omega)
    · exact q
/-! ### height_at -/

def sp_height_at (K : PySem.W.Frag) : Sp := fun vs H Q _ => ∃ (p : Addr) (a b m x : Int), vs = [.ref p, .int x] ∧ SqT K H p [.int a, .int b, .int m] ∧ 0 < m ∧ IntMulOk a x ∧ Q (.int (a * x + b)) H
theorem ok_height_at {P : Program} {w : World} {K : PySem.W.Frag} {mg : Str → Option Value} {base : Heap} (T : Top w K mg base) : FnOk P w K mg base CX0 2 T.f_height_at T.fd_height_at ["line", "place"] (sp_height_at K) := by
  refine T.F_height_at.ok sc_height_at (fun vs H Q E h => ?_) (fun cdv A outer s H vs Q E hr h => ?_)
  · rcases h with ⟨p, a, b, m, x, rfl, _⟩ <;> rfl
  · obtain ⟨p, a, b, m, x, rfl, hS, hm, hk, q⟩ := h
    refine ⟨_, (pss_cons (ps_expr (pe_call (ok_check_line T) (hr.mono (by decide)) (by rfl) T.g_check_line T.F_check_line.kp T.b_check_line .nil pass0 (pa_cons (pv 0) pa_nil)))
  (pss_one (ps_ret (pe_op op_add (pe_op op_mulG (pe_ix ix_tup (pv 0) pe_int (fun _ _ => rfl)) (pv 1)) (pe_ix ix_tup (pv 0) pe_int (fun _ _ => rfl)))))), ?_⟩
    try rw [st_height_at]

    (repeat (with_reducible first | refine r_v0 ?_ | refine r_seq ?_ | refine r_drop ?_ | refine r_cons ?_ | refine r_nil ?_ | refine r_call ?_))
    refine ⟨p, a, b, m, rfl, hS, hm, ?_⟩
    (repeat (first | (with_reducible first | refine r_v0 ?_ | refine r_v1 ?_ | refine r_C ?_ | refine r_op ?_ | refine r_I0 ?_ | refine r_ret ?_) | ((with_reducible refine' r_ixT ?zzs ?zze ?_); (case zzs => assumption); (case zze => exact rfl)) | ((with_reducible refine r_I ?zzc ?_); (case zzc => first | with_reducible assumption | ((with_reducible apply mul_okA); (repeat' (first | with_reducible assumption | with_reducible apply Sz.mul | with_reducible apply Sz.addM | with_reducible apply Sz.subM | with_reducible apply Sz.neg | exact Sz.lit | decide)); done) | (show (0 : Int) < _; first | with_reducible assumption | decide | omega) | exact mul_okL | exact mul_okR | exact mul_okM | (exact div_ok (by with_reducible assumption) (by with_reducible assumption)) | (exact ⟨by with_reducible assumption, by with_reducible assumption⟩) | (exact ⟨by decide, by decide, by decide⟩) | (exact ⟨by decide, by decide⟩)))))
    exact q
/-! ### part_at -/

def sp_part_at (K : PySem.W.Frag) : Sp := fun vs H Q _ => ∃ (p : Addr) (a b m x : Int), vs = [.ref p, .int x] ∧ SqT K H p [.int a, .int b, .int m] ∧ 0 < m ∧ IntMulOk a x ∧ m.natAbs.log2 < 9000 ∧ Q (.int ((a * x + b) / m)) H
theorem ok_part_at {P : Program} {w : World} {K : PySem.W.Frag} {mg : Str → Option Value} {base : Heap} (T : Top w K mg base) : FnOk P w K mg base CX0 3 T.f_part_at T.fd_part_at ["line", "place"] (sp_part_at K) := by
  refine T.F_part_at.ok sc_part_at (fun vs H Q E h => ?_) (fun cdv A outer s H vs Q E hr h => ?_)
  · rcases h with ⟨p, a, b, m, x, rfl, _⟩ <;> rfl
  · obtain ⟨p, a, b, m, x, rfl, hS, hm, hk, hl, q⟩ := h
    refine ⟨_, (pss_one (ps_ret (pe_op op_fdivW (pe_call (ok_height_at T) (hr.mono (by decide)) (by rfl) T.g_height_at T.F_height_at.kp T.b_height_at .nil pass0 (pa_cons (pv 0) (pa_cons (pv 1) pa_nil))) (pe_ix ix_tup (pv 0) pe_int (fun _ _ => rfl))))), ?_⟩
    try rw [st_part_at]

    have hd : CDivW (a * x + b) m := ⟨hm, hl⟩
    (repeat (with_reducible first | refine r_v0 ?_ | refine r_v1 ?_ | refine r_op ?_ | refine r_ret ?_ | refine r_cons ?_ | refine r_nil ?_ | refine r_call ?_))
    refine ⟨p, a, b, m, x, rfl, hS, hm, hk, ?_⟩
    (repeat (first | (with_reducible first | refine r_v0 ?_ | refine r_C ?_ | refine r_op ?_) | ((with_reducible refine' r_ixT ?zzs ?zze ?_); (case zzs => assumption); (case zze => exact rfl)) | ((with_reducible refine r_I ?zzc ?_); (case zzc => first | with_reducible assumption | ((with_reducible apply mul_okA); (repeat' (first | with_reducible assumption | with_reducible apply Sz.mul | with_reducible apply Sz.addM | with_reducible apply Sz.subM | with_reducible apply Sz.neg | exact Sz.lit | decide)); done) | (show (0 : Int) < _; first | with_reducible assumption | decide | omega) | exact mul_okL | exact mul_okR | exact mul_okM | (exact div_ok (by with_reducible assumption) (by with_reducible assumption)) | (exact ⟨by with_reducible assumption, by with_reducible assumption⟩) | (exact ⟨by decide, by decide, by decide⟩) | (exact ⟨by decide, by decide⟩)))))
    exact q
/-! ### rest_at -/

def sp_rest_at (K : PySem.W.Frag) : Sp := fun vs H Q _ => ∃ (p : Addr) (a b m x : Int), vs = [.ref p, .int x] ∧ SqT K H p [.int a, .int b, .int m] ∧ 0 < m ∧ IntMulOk a x ∧ Q (.int ((a * x + b) % m)) H
theorem ok_rest_at {P : Program} {w : World} {K : PySem.W.Frag} {mg : Str → Option Value} {base : Heap} (T : Top w K mg base) : FnOk P w K mg base CX0 3 T.f_rest_at T.fd_rest_at ["line", "place"] (sp_rest_at K) := by
  refine T.F_rest_at.ok sc_rest_at (fun vs H Q E h => ?_) (fun cdv A outer s H vs Q E hr h => ?_)
  · rcases h with ⟨p, a, b, m, x, rfl, _⟩ <;> rfl
  · obtain ⟨p, a, b, m, x, rfl, hS, hm, hk, q⟩ := h
    refine ⟨_, (pss_one (ps_ret (pe_op op_mod (pe_call (ok_height_at T) (hr.mono (by decide)) (by rfl) T.g_height_at T.F_height_at.kp T.b_height_at .nil pass0 (pa_cons (pv 0) (pa_cons (pv 1) pa_nil))) (pe_ix ix_tup (pv 0) pe_int (fun _ _ => rfl))))), ?_⟩
    try rw [st_rest_at]

    (repeat (with_reducible first | refine r_v0 ?_ | refine r_v1 ?_ | refine r_op ?_ | refine r_ret ?_ | refine r_cons ?_ | refine r_nil ?_ | refine r_call ?_))
    refine ⟨p, a, b, m, x, rfl, hS, hm, hk, ?_⟩
    (repeat (first | (with_reducible first | refine r_v0 ?_ | refine r_C ?_ | refine r_op ?_) | ((with_reducible refine' r_ixT ?zzs ?zze ?_); (case zzs => assumption); (case zze => exact rfl)) | ((with_reducible refine r_I ?zzc ?_); (case zzc => first | with_reducible assumption | ((with_reducible apply mul_okA); (repeat' (first | with_reducible assumption | with_reducible apply Sz.mul | with_reducible apply Sz.addM | with_reducible apply Sz.subM | with_reducible apply Sz.neg | exact Sz.lit | decide)); done) | (show (0 : Int) < _; first | with_reducible assumption | decide | omega) | exact mul_okL | exact mul_okR | exact mul_okM | (exact div_ok (by with_reducible assumption) (by with_reducible assumption)) | (exact ⟨by with_reducible assumption, by with_reducible assumption⟩) | (exact ⟨by decide, by decide, by decide⟩) | (exact ⟨by decide, by decide⟩)))))
    exact q
/-! ### laid_off -/

def sp_laid_off (K : PySem.W.Frag) : Sp := fun vs H Q _ => ∃ (p : Addr) (a b m : Int), vs = [.ref p] ∧ SqT K H p [.int a, .int b, .int m] ∧ 0 < m ∧ m.natAbs.log2 < 9000 ∧
  ∀ (t t' : Addr) H', Same H H' → H' t' = some (.tup [.int (a % m), .int (b % m), .int m]) → H' t = some (.tup [.int (a / m), .int (b / m), .ref t']) → Q (.ref t) H'
theorem ok_laid_off {P : Program} {w : World} {K : PySem.W.Frag} {mg : Str → Option Value} {base : Heap} (T : Top w K mg base) : FnOk P w K mg base CX0 2 T.f_laid_off T.fd_laid_off ["line"] (sp_laid_off K) := by
  refine T.F_laid_off.ok sc_laid_off (fun vs H Q E h => ?_) (fun cdv A outer s H vs Q E hr h => ?_)
  · rcases h with ⟨p, a, b, m, rfl, _⟩ <;> rfl
  · obtain ⟨p, a, b, m, rfl, hS, hm, hl, q⟩ := h
    refine ⟨_, (pss_cons (ps_expr (pe_call (ok_check_line T) (hr.mono (by decide)) (by rfl) T.g_check_line T.F_check_line.kp T.b_check_line .nil pass0 (pa_cons (pv 0) pa_nil)))
  (pss_cons (ps_asg (pv 0) (pg_tup rfl (pgs_cons (pg_name (i := 1) sc_laid_off.nd rfl (Or.inl rfl)) (pgs_cons (pg_name (i := 2) sc_laid_off.nd rfl (Or.inl rfl)) (pgs_cons (pg_name (i := 3) sc_laid_off.nd rfl (Or.inl rfl)) pgs_nil)))))
  (pss_cons (ps_asg (pe_callB call_divmodW (by rfl) T.n_divmod (by decide +kernel) (pa_cons (pv 1) (pa_cons (pv 3) pa_nil))) (pg_tup rfl (pgs_cons (pg_name (i := 4) sc_laid_off.nd rfl (Or.inl rfl)) (pgs_cons (pg_name (i := 5) sc_laid_off.nd rfl (Or.inl rfl)) pgs_nil))))
  (pss_cons (ps_asg (pe_callB call_divmodW (by rfl) T.n_divmod (by decide +kernel) (pa_cons (pv 2) (pa_cons (pv 3) pa_nil))) (pg_tup rfl (pgs_cons (pg_name (i := 6) sc_laid_off.nd rfl (Or.inl rfl)) (pgs_cons (pg_name (i := 7) sc_laid_off.nd rfl (Or.inl rfl)) pgs_nil))))
  (pss_one (ps_ret (pe_tup (pa_cons (pv 4) (pa_cons (pv 6) (pa_cons (pe_tup (pa_cons (pv 5) (pa_cons (pv 7) (pa_cons (pv 3) pa_nil)))) pa_nil)))))))))), ?_⟩
    try rw [st_laid_off]

    (repeat (with_reducible first | refine r_v0 ?_ | refine r_seq ?_ | refine r_drop ?_ | refine r_cons ?_ | refine r_nil ?_ | refine r_call ?_))
    refine ⟨p, a, b, m, rfl, hS, hm, ?_⟩
    (repeat (first | (with_reducible first | refine r_v0 ?_ | refine r_v1 ?_ | refine r_v3 ?_ | refine r_gn1 ?_ | refine r_gn2 ?_ | refine r_gn3 ?_ | refine r_seq ?_ | refine r_asg ?_ | refine r_cons ?_ | refine r_nil ?_ | refine r_CB ?_ | refine r_gcons ?_ | refine r_gnil ?_ | refine r_max2 ?_) | ((with_reducible refine' r_gtup ?zzs ?zzl ?_); (case zzs => assumption); (case zzl => exact rfl))))
    refine ⟨⟨hm, hl⟩, ?_⟩
    refine r_litT fun p1 H1 n1 s1 e1 => ?_
    have z1 : SqT K H1 p1 [.int (a / m), .int (a % m)] := .inl (.inl e1)
    (repeat (first | (with_reducible first | refine r_v2 ?_ | refine r_v3 ?_ | refine r_gn4 ?_ | refine r_gn5 ?_ | refine r_seq ?_ | refine r_asg ?_ | refine r_cons ?_ | refine r_nil ?_ | refine r_CB ?_ | refine r_gcons ?_ | refine r_gnil ?_ | refine r_max2 ?_) | ((with_reducible refine' r_gtup ?zzs ?zzl ?_); (case zzs => assumption); (case zzl => exact rfl))))
    refine ⟨⟨hm, hl⟩, ?_⟩
    refine r_litT fun p2 H2 n2 s2 e2 => ?_
    have z2 : SqT K H2 p2 [.int (b / m), .int (b % m)] := .inl (.inl e2)
    (repeat (first | (with_reducible first | refine r_v3 ?_ | refine r_v4 ?_ | refine r_v5 ?_ | refine r_v6 ?_ | refine r_v7 ?_ | refine r_gn6 ?_ | refine r_gn7 ?_ | refine r_ret ?_ | refine r_cons ?_ | refine r_nil ?_ | refine r_tup ?_ | refine r_gcons ?_ | refine r_gnil ?_) | ((with_reducible refine' r_gtup ?zzs ?zzl ?_); (case zzs => assumption); (case zzl => exact rfl))))
    refine r_litT fun p3 H3 n3 s3 e3 => ?_
    (repeat (with_reducible refine r_nil ?_))
    refine r_litT fun p4 H4 n4 s4 e4 => ?_
    exact q p4 p3 H4 ((s1.trans s2).trans (s3.trans s4)) (s4 _ _ e3) e4
/-! ### turned -/

def sp_turned (K : PySem.W.Frag) : Sp := fun vs H Q _ => ∃ (p : Addr) (a b m n : Int), vs = [.ref p, .int n] ∧ SqT K H p [.int a, .int b, .int m] ∧ 0 ≤ a ∧ a < m ∧ 0 ≤ b ∧ b < m ∧ m.natAbs.log2 < 9000 ∧ IntMulOk a n ∧
  ((a * n + b) / m = 0 → ∀ (t : Addr) H', Same H H' → H' t = some (.tup [.int 0, .non]) → Q (.ref t) H') ∧
  ((a * n + b) / m ≠ 0 → ∀ (t t' : Addr) H', Same H H' → H' t' = some (.tup [.int m, .int ((a * n + b) % m), .int a]) → H' t = some (.tup [.int ((a * n + b) / m), .ref t']) → Q (.ref t) H')
theorem ok_turned {P : Program} {w : World} {K : PySem.W.Frag} {mg : Str → Option Value} {base : Heap} (T : Top w K mg base) : FnOk P w K mg base CX0 4 T.f_turned T.fd_turned ["line", "n"] (sp_turned K) := by
  refine T.F_turned.ok sc_turned (fun vs H Q E h => ?_) (fun cdv A outer s H vs Q E hr h => ?_)
  · rcases h with ⟨p, a, b, m, n, rfl, _⟩ <;> rfl
  · obtain ⟨p, a, b, m, n, rfl, hS, ha0, ha1, hb0, hb1, hl, hk, q0, q1⟩ := h
    refine ⟨_, (pss_cons (ps_expr (pe_call (ok_check_line T) (hr.mono (by decide)) (by rfl) T.g_check_line T.F_check_line.kp T.b_check_line .nil pass0 (pa_cons (pv 0) pa_nil)))
  (pss_cons (ps_asg (pv 0) (pg_tup rfl (pgs_cons (pg_name (i := 2) sc_turned.nd rfl (Or.inl rfl)) (pgs_cons (pg_name (i := 3) sc_turned.nd rfl (Or.inl rfl)) (pgs_cons (pg_name (i := 4) sc_turned.nd rfl (Or.inl rfl)) pgs_nil)))))
  (pss_cons (ps_if (pt_not (PW.pt (pw_and (pt_chain op_le op_lt pe_int (pv 2) (pv 4)) (pw_and1 (pt_chain op_le op_lt pe_int (pv 3) (pv 4)))))) (pss_one ps_never) pss_nil)
  (pss_cons (ps_set (i := 5) sc_turned.nd rfl (Or.inl rfl) (pe_call (ok_part_at T) (hr.mono (by decide)) (by rfl) T.g_part_at T.F_part_at.kp T.b_part_at .nil pass0 (pa_cons (pv 0) (pa_cons (pv 1) pa_nil))))
  (pss_cons (ps_if (pt_cmpR op_eq (pv 5) pe_int (nomark _)) (pss_one (ps_ret (pe_tup (pa_cons pe_int (pa_cons pe_non pa_nil))))) pss_nil)
  (pss_one (ps_ret (pe_tup (pa_cons (pv 5) (pa_cons (pe_tup (pa_cons (pv 4) (pa_cons (pe_call (ok_rest_at T) (hr.mono (by decide)) (by rfl) T.g_rest_at T.F_rest_at.kp T.b_rest_at .nil pass0 (pa_cons (pv 0) (pa_cons (pv 1) pa_nil))) (pa_cons (pv 2) pa_nil)))) pa_nil)))))))))), ?_⟩
    try rw [st_turned]

    have hm : 0 < m := by omega
    (repeat (with_reducible first | refine r_v0 ?_ | refine r_seq ?_ | refine r_drop ?_ | refine r_cons ?_ | refine r_nil ?_ | refine r_call ?_))
    refine ⟨p, a, b, m, rfl, hS, hm, ?_⟩
    (repeat (first | (with_reducible first | refine r_v0 ?_ | refine r_v2 ?_ | refine r_gn2 ?_ | refine r_gn3 ?_ | refine r_gn4 ?_ | refine r_seq ?_ | refine r_asg ?_ | refine r_C ?_ | refine r_I0 ?_ | refine r_if ?_ | refine r_test ?_ | refine r_bl ?_ | refine r_not ?_ | refine r_and ?_ | refine r_gcons ?_ | refine r_gnil ?_ | refine r_chain ?_) | ((with_reducible refine' r_gtup ?zzs ?zzl ?_); (case zzs => assumption); (case zzl => exact rfl))))
    refine r_ite (fun _ => ?_) (fun h => absurd ha0 h)
    (repeat (with_reducible first | refine r_v4 ?_ | refine r_I0 ?_ | refine r_bl ?_))
    refine r_ite (fun _ => ?_) (fun h => absurd ha1 h)
    (repeat (with_reducible first | refine r_v3 ?_ | refine r_C ?_ | refine r_I0 ?_ | refine r_test ?_ | refine r_bl ?_ | refine r_chain ?_))
    refine r_ite (fun _ => ?_) (fun h => absurd hb0 h)
    (repeat (with_reducible first | refine r_v4 ?_ | refine r_I0 ?_ | refine r_bl ?_))
    refine r_iteN (fun h => absurd hb1 h) (fun _ => ?_)
    (repeat (with_reducible first | refine r_v0 ?_ | refine r_v1 ?_ | refine r_seq ?_ | refine r_next ?_ | refine r_asg ?_ | refine r_cons ?_ | refine r_nil ?_ | refine r_call ?_))
    refine ⟨p, a, b, m, n, rfl, hS, hm, hk, hl, ?_⟩
    (repeat (with_reducible first | refine r_v5 ?_ | refine r_gn5 ?_ | refine r_seq ?_ | refine r_C ?_ | refine r_op ?_ | refine r_if ?_ | refine r_test ?_ | refine r_bl ?_ | refine r_eqI ?_))
    refine r_ite (fun h => ?_) (fun h => ?_)
    · (repeat (with_reducible first | refine r_C ?_ | refine r_ret ?_ | refine r_cons ?_ | refine r_nil ?_ | refine r_tup ?_))
      refine r_litT fun p1 H1 n1 s1 e1 => ?_
      exact q0 h p1 H1 s1 e1
    · (repeat (with_reducible first | refine r_v0 ?_ | refine r_v1 ?_ | refine r_v4 ?_ | refine r_v5 ?_ | refine r_next ?_ | refine r_ret ?_ | refine r_cons ?_ | refine r_nil ?_ | refine r_call ?_ | refine r_tup ?_))
      refine ⟨p, a, b, m, n, rfl, hS, hm, hk, ?_⟩
      (repeat (with_reducible first | refine r_v2 ?_ | refine r_cons ?_ | refine r_nil ?_))
      refine r_litT fun p1 H1 n1 s1 e1 => ?_
      (repeat (with_reducible refine r_nil ?_))
      refine r_litT fun p2 H2 n2 s2 e2 => ?_
      exact q1 h p2 p1 H2 (s1.trans s2) (s2 _ _ e1) e2
/-! ### is_number -/

def sp_is_number (K : PySem.W.Frag) : Sp := fun vs H Q _ => ∃ (w : Str), vs = [.str w] ∧ w.length ≤ 10000 ∧ Q (.bl (isNumL (tl w))) H
theorem ok_is_number {P : Program} {w : World} {K : PySem.W.Frag} {mg : Str → Option Value} {base : Heap} (T : Top w K mg base) : FnOk P w K mg base CX0 1 T.f_is_number T.fd_is_number ["word"] (sp_is_number K) := by
  refine T.F_is_number.ok sc_is_number (fun vs H Q E h => ?_) (fun cdv A outer s H vs Q E hr h => ?_)
  · rcases h with ⟨w, rfl, _⟩ <;> rfl
  · obtain ⟨w, rfl, hl, q⟩ := h
    refine ⟨_, (pss_cons (ps_set (i := 1) sc_is_number.nd rfl (Or.inl rfl) (pe_m1 PySem.F.slot_str_removeprefix PySem.F.type_str_removeprefix mt_removeprefix (pv 0) pe_str))
  (pss_cons (ps_if (pt_not (PW.pt (pw_and (pt_val (pe_m0 PySem.F.slot_str_isascii PySem.F.type_str_isascii mt_isascii (pv 1))) (pw_and1 (pt_val (pe_m0 PySem.F.slot_str_isdigit PySem.F.type_str_isdigit mt_isdigit (pv 1))))))) (pss_one (ps_ret pe_bl)) pss_nil)
  (pss_one (ps_ret (pe_or (pe_cmpR op_eq (pv 0) pe_str (nomark _)) (pe_one (pe_not (pe_m1 PySem.F.slot_str_startswith PySem.F.type_str_startswith mt_startswith (pv 1) pe_str)))))))), ?_⟩
    try rw [st_is_number]

    have hl : w.length ≤ sizeLine := Nat.le_trans hl (by decide)
    have e1 := digs_eq (Txt.removeprefix w "-")
    have e2 := starts0 (Txt.removeprefix w "-")
    have e3 := eq0 w
    rw [tl_removeprefix] at e1 e2
    unfold isNumL at q
    rw [← e1, ← e2, ← e3] at q
    (repeat (with_reducible first | refine r_v0 ?_ | refine r_seq ?_ | refine r_asg ?_ | refine r_C ?_ | refine r_m1 ?_ | refine r_isStr ?_ | refine r_s2 ?_))
    refine ⟨hl, ?_⟩
    (repeat (with_reducible first | refine r_v1 ?_ | refine r_gn1 ?_ | refine r_seq ?_ | refine r_if ?_ | refine r_B ?_ | refine r_bl ?_ | refine r_not ?_ | refine r_and ?_ | refine r_m0 ?_ | refine r_isStr ?_ | refine r_s1 ?_))
    refine r_itb (fun h1 => ?_) (fun h1 => ?_)
    · (repeat (with_reducible first | refine r_v1 ?_ | refine r_B ?_ | refine r_bl ?_ | refine r_m0 ?_ | refine r_isStr ?_ | refine r_s1 ?_))
      cases h2 : Txt.isdigit (Txt.removeprefix w "-") with
      | true =>
        (repeat (with_reducible first | refine r_v0 ?_ | refine r_next ?_ | refine r_C ?_ | refine r_op ?_ | refine r_ret ?_ | refine r_bl ?_ | refine r_orV ?_ | refine iteNT ?_ | refine r_eqStr ?_))
        rw [h1, h2] at q
        cases h3 : decide (V.str w = V.str "0") with
        | true =>
          rw [h3] at q
          (repeat (with_reducible refine iteT ?_))
          exact q
        | false =>
          rw [h3] at q
          (repeat (with_reducible first | refine r_v1 ?_ | refine r_C ?_ | refine r_bl ?_ | refine r_notV ?_ | refine iteF ?_ | refine r_m1 ?_ | refine r_isStr ?_ | refine r_s2 ?_))
          exact q
      | false =>
        (repeat (with_reducible first | refine r_C ?_ | refine r_ret ?_ | refine iteNF ?_))
        rw [h1, h2] at q
        exact q
    · (repeat (with_reducible first | refine r_C ?_ | refine r_ret ?_ | refine iteNF ?_))
      rw [h1] at q
      exact q
/-! ### check_stretch -/

def sp_check_stretch (K : PySem.W.Frag) : Sp := fun vs H Q _ => ∃ (low high : Int), vs = [.int low, .int high] ∧ low ≤ high ∧ Q .non H
theorem ok_check_stretch {P : Program} {w : World} {K : PySem.W.Frag} {mg : Str → Option Value} {base : Heap} (T : Top w K mg base) : FnOk P w K mg base CX0 1 T.f_check_stretch T.fd_check_stretch ["low", "high"] (sp_check_stretch K) := by
  refine T.F_check_stretch.ok sc_check_stretch (fun vs H Q E h => ?_) (fun cdv A outer s H vs Q E hr h => ?_)
  · rcases h with ⟨low, high, rfl, _⟩ <;> rfl
  · obtain ⟨low, high, rfl, hlh, q⟩ := h
    refine ⟨_, (pss_one (ps_if (pt_cmpR op_lt (pv 1) (pv 0) (nomark _)) (pss_one ps_never) pss_nil)), ?_⟩
    try rw [st_check_stretch]

    (repeat (with_reducible first | refine r_v0 ?_ | refine r_v1 ?_ | refine r_op ?_ | refine r_I0 ?_ | refine r_if ?_ | refine r_test ?_ | refine r_bl ?_))
    refine r_ite (fun h => absurd hlh (by omega)) (fun _ => ?_)
    (repeat (with_reducible refine r_next ?_))
    exact q
/-! ### sum_places -/

def sp_sum_places (K : PySem.W.Frag) : Sp := fun vs H Q _ => ∃ (n : Int), vs = [.int n] ∧ Sz 3000 n ∧ Q (.int (tri n)) H
theorem ok_sum_places {P : Program} {w : World} {K : PySem.W.Frag} {mg : Str → Option Value} {base : Heap} (T : Top w K mg base) : FnOk P w K mg base CX0 1 T.f_sum_places T.fd_sum_places ["n"] (sp_sum_places K) := by
  refine T.F_sum_places.ok sc_sum_places (fun vs H Q E h => ?_) (fun cdv A outer s H vs Q E hr h => ?_)
  · rcases h with ⟨n, rfl, _⟩ <;> rfl
  · obtain ⟨n, rfl, hz, q⟩ := h
    refine ⟨_, (pss_one (ps_ret (pe_op op_fdivW (pe_op op_mulG (pv 0) (pe_op op_sub (pv 0) pe_int)) pe_int))), ?_⟩
    try rw [st_sum_places]

    have ok : IntMulOk n (n - 1) := mul_ok (b := 3001) hz (hz.sub (j := 1) (Sz.mono (a := 1) (by decide) (by decide)))
    have ok2 : CDivW (n * (n - 1)) 2 := ⟨by decide, by decide +kernel⟩
    (repeat (first | (with_reducible first | refine r_v0 ?_ | refine r_C ?_ | refine r_op ?_ | refine r_I0 ?_ | refine r_ret ?_) | ((with_reducible refine r_I ?zzc ?_); (case zzc => first | with_reducible assumption | ((with_reducible apply mul_okA); (repeat' (first | with_reducible assumption | with_reducible apply Sz.mul | with_reducible apply Sz.addM | with_reducible apply Sz.subM | with_reducible apply Sz.neg | exact Sz.lit | decide)); done) | (show (0 : Int) < _; first | with_reducible assumption | decide | omega) | exact mul_okL | exact mul_okR | exact mul_okM | (exact div_ok (by with_reducible assumption) (by with_reducible assumption)) | (exact ⟨by with_reducible assumption, by with_reducible assumption⟩) | (exact ⟨by decide, by decide, by decide⟩) | (exact ⟨by decide, by decide⟩)))))
    exact q
/-! ### sum_parts -/

def sp_sum_parts (K : PySem.W.Frag) : Sp := fun vs H Q _ => ∃ (p : Addr) (a b m n : Int), vs = [.ref p, .int n] ∧ Ln K H p a b m ∧ 0 ≤ n ∧ Sz 1000 n ∧ ∀ H', Same H H' → Q (.int (sumP a b m n.toNat)) H'
theorem ok_sum_parts {P : Program} {w : World} {K : PySem.W.Frag} {mg : Str → Option Value} {base : Heap} (T : Top w K mg base) : FnOk P w K mg base CX0 5 T.f_sum_parts T.fd_sum_parts ["line", "n"] (sp_sum_parts K) := by
  refine T.F_sum_parts.ok sc_sum_parts (fun vs H Q E h => ?_) (fun cdv A outer s H vs Q E hr h => ?_)
  · rcases h with ⟨p, a, b, m, n, rfl, _⟩ <;> rfl
  · obtain ⟨p, a, b, m, n, rfl, L, hn, sn, q⟩ := h
    refine ⟨_, (pss_cons (ps_set (i := 2) sc_sum_parts.nd rfl (Or.inl rfl) pe_int)
  (pss_cons (ps_while PassesOwn.never (pt_cmpR op_notN (pv 0) pe_non (nomark _))
  (pss_cons (ps_asg (pe_call (ok_laid_off T) (hr.mono (by decide)) (by rfl) T.g_laid_off T.F_laid_off.kp T.b_laid_off .nil pass0 (pa_cons (pv 0) pa_nil)) (pg_tup rfl (pgs_cons (pg_name (i := 3) sc_sum_parts.nd rfl (Or.inl rfl)) (pgs_cons (pg_name (i := 4) sc_sum_parts.nd rfl (Or.inl rfl)) (pgs_cons (pg_name (i := 0) sc_sum_parts.nd rfl (Or.inl rfl)) pgs_nil)))))
  (pss_cons (ps_aug (i := 2) sc_sum_parts.nd rfl (Or.inl rfl) (pe_op op_add (pe_op op_mulG (pv 3) (pe_call (ok_sum_places T) (hr.mono (by decide)) (by rfl) T.g_sum_places T.F_sum_places.kp T.b_sum_places .nil pass0 (pa_cons (pv 1) pa_nil))) (pe_op op_mulG (pv 4) (pv 1))) ip_add)
  (pss_one (ps_asg (pe_call (ok_turned T) (hr.mono (by decide)) (by rfl) T.g_turned T.F_turned.kp T.b_turned .nil pass0 (pa_cons (pv 0) (pa_cons (pv 1) pa_nil))) (pg_tup rfl (pgs_cons (pg_name (i := 1) sc_sum_parts.nd rfl (Or.inl rfl)) (pgs_cons (pg_name (i := 0) sc_sum_parts.nd rfl (Or.inl rfl)) pgs_nil))))))))
  (pss_one (ps_ret (pv 2))))), ?_⟩
    try rw [st_sum_parts]

    (repeat (with_reducible first | refine r_gn2 ?_ | refine r_seq ?_ | refine r_asg ?_ | refine r_C ?_))
    refine r_while (fun k σ H' => ∃ (lv : V) (n' tot : Int) (v3 v4 : Option V), σ = [some lv, some (.int n'), some (.int tot), v3, v4] ∧ Same H H' ∧ ((lv = .non ∧ tot = sumP a b m n.toNat) ∨
      ∃ (p' : Addr) (a' b' m' : Int), lv = .ref p' ∧ Ln K H' p' a' b' m' ∧ 0 ≤ n' ∧ Sz 1000 n' ∧ tot + sumP a' b' m' n'.toNat = sumP a b m n.toNat ∧ k = m'.toNat)) m.toNat
      ⟨_, n, 0, none, none, rfl, Same.refl _, .inr ⟨p, a, b, m, rfl, L, hn, sn, Int.zero_add _, rfl⟩⟩ ?_
    rintro k σ H1 ⟨lv, n', tot, v3, v4, rfl, s1, hh⟩
    rcases hh with ⟨rfl, rfl⟩ | ⟨p', a', b', m', rfl, L', hn', sn', et, rfl⟩
    · (repeat (with_reducible first | refine r_v0 ?_ | refine r_C ?_ | refine r_op ?_ | refine r_test ?_ | refine r_bl ?_ | refine r_notN ?_))
      refine r_iteN (fun h => absurd rfl h) (fun _ => ?_)
      (repeat (with_reducible first | refine r_v2 ?_ | refine r_ret ?_))
      exact q _ s1
    · (repeat (with_reducible first | refine r_v0 ?_ | refine r_C ?_ | refine r_op ?_ | refine r_test ?_ | refine r_bl ?_ | refine r_notN ?_))
      refine r_iteN (fun _ => ?_) (fun h => nomatch h)
      refine while_ok ?_
      have hm' := L'.pos
      have lg := lg_ok hm' L'.sm
      (repeat (with_reducible first | refine r_v0 ?_ | refine r_seq ?_ | refine r_asg ?_ | refine r_cons ?_ | refine r_nil ?_ | refine r_call ?_))
      refine ⟨p', a', b', m', rfl, L'.at_, hm', lg, fun t t' H2 s2 e2 e3 => ?_⟩
      have z3 : SqT K H2 t [.int (a' / m'), .int (b' / m'), .ref t'] := .inl (.inl e3)
      (repeat (first | (with_reducible first | refine r_v1 ?_ | refine r_v3 ?_ | refine r_gn0 ?_ | refine r_gn3 ?_ | refine r_gn4 ?_ | refine r_au2 ?_ | refine r_seq ?_ | refine r_op ?_ | refine r_cons ?_ | refine r_nil ?_ | refine r_call ?_ | refine r_gcons ?_ | refine r_gnil ?_) | ((with_reducible refine' r_gtup ?zzs ?zzl ?_); (case zzs => assumption); (case zzl => exact rfl))))
      refine ⟨n', rfl, sn'.mono (by decide), ?_⟩
      have ok1 : IntMulOk (a' / m') (tri n') := mul_ok (L'.sa.div hm') (tri_sz sn' (by decide))
      have ok2 : IntMulOk (b' / m') n' := mul_ok (L'.sb.div hm') sn'
      (repeat (first | (with_reducible first | refine r_v0 ?_ | refine r_v1 ?_ | refine r_v4 ?_ | refine r_asg ?_ | refine r_op ?_ | refine r_I0 ?_ | refine r_cons ?_ | refine r_nil ?_ | refine r_call ?_ | refine r_ipI ?_) | ((with_reducible refine r_I ?zzc ?_); (case zzc => first | with_reducible assumption | ((with_reducible apply mul_okA); (repeat' (first | with_reducible assumption | with_reducible apply Sz.mul | with_reducible apply Sz.addM | with_reducible apply Sz.subM | with_reducible apply Sz.neg | exact Sz.lit | decide)); done) | (show (0 : Int) < _; first | with_reducible assumption | decide | omega) | exact mul_okL | exact mul_okR | exact mul_okM | (exact div_ok (by with_reducible assumption) (by with_reducible assumption)) | (exact ⟨by with_reducible assumption, by with_reducible assumption⟩) | (exact ⟨by decide, by decide, by decide⟩) | (exact ⟨by decide, by decide⟩)))))
      have a0 := Int.emod_nonneg a' (b := m') (by omega)
      have a1 := Int.emod_lt_of_pos a' hm'
      have b0 := Int.emod_nonneg b' (b := m') (by omega)
      have b1 := Int.emod_lt_of_pos b' hm'
      have hlaid := sum_laid (a := a') (b := b') hm' n'.toNat
      rw [Int.toNat_of_nonneg hn'] at hlaid
      have sa2 : Sz 1000 (a' % m') := L'.sm.mod hm'
      have sb2 : Sz 1000 (b' % m') := L'.sm.mod hm'
      generalize a' % m' = a2 at a0 a1 hlaid sa2 e2
      generalize b' % m' = b2 at b0 b1 hlaid sb2 e2
      have nn : ((n'.toNat : Nat) : Int) = n' := Int.toNat_of_nonneg hn'
      refine ⟨t', a2, b2, m', n', rfl, .inl (.inl e2), a0, a1, b0, b1, lg, mul_ok sa2 sn', fun hk t4 H4 s4 e4 => ?_, fun hk t4 t5 H4 s4 e4 e5 => ?_⟩
      · have z4 : SqT K H4 t4 [.int 0, .non] := .inl (.inl e4)
        have hf := sum_flat (b := b2) a0 a1 b0 n'.toNat (by rw [nn]; exact hk)
        (repeat (first | (with_reducible first | refine r_gn0 ?_ | refine r_gn1 ?_ | refine r_gcons ?_ | refine r_gnil ?_) | ((with_reducible refine' r_gtup ?zzs ?zzl ?_); (case zzs => assumption); (case zzl => exact rfl))))
        exact ⟨0, by omega, _, _, _, _, _, rfl, (s1.trans s2).trans s4, .inl ⟨rfl, by omega⟩⟩
      · have z4 : SqT K H4 t4 [.int ((a2 * n' + b2) / m'), .ref t5] := .inl (.inl e5)
        have h0 : 0 ≤ a2 * n' := Int.mul_nonneg a0 hn'
        have hk0 : 0 ≤ (a2 * n' + b2) / m' := Int.ediv_nonneg (by omega) (by omega)
        have hkn : (a2 * n' + b2) / m' ≤ n' := by
          have : (a2 * n' + b2) / m' < n' + 1 := by
            refine Int.ediv_lt_of_lt_mul hm' ?_
            have : a2 * n' ≤ m' * n' := Int.mul_le_mul_of_nonneg_right (by omega) hn'
            rw [Int.add_mul, Int.one_mul, Int.mul_comm n']
            omega
          omega
        have ha : 0 < a2 := by
          rcases Int.lt_or_eq_of_le a0 with h | h
          · exact h
          · subst h
            rw [Int.zero_mul, Int.zero_add, Int.ediv_eq_zero_of_lt b0 b1] at hk
            exact absurd rfl hk
        have ht := sum_turned a0 a1 b0 b1 n'.toNat (by rw [nn]; omega)
        rw [nn] at ht
        (repeat (first | (with_reducible first | refine r_gn0 ?_ | refine r_gn1 ?_ | refine r_gcons ?_ | refine r_gnil ?_) | ((with_reducible refine' r_gtup ?zzs ?zzl ?_); (case zzs => assumption); (case zzl => exact rfl))))
        refine ⟨a2.toNat, by omega, _, _, _, _, _, rfl, (s1.trans s2).trans s4, .inr ⟨t5, m', _, a2, rfl, ⟨.inl (.inl e4), ha, L'.sm, L'.sm.mod hm', sa2⟩, hk0, sn'.le hk0 hkn, by omega, rfl⟩⟩

theorem sumF_sz {f : Nat → Int} {b : Nat} : ∀ (n : Nat), (∀ x, x < n → Sz b (f x)) → (sumF f n).natAbs ≤ n * 2 ^ b
  | 0, _ => by
    rw [Nat.zero_mul]
    exact Nat.le_refl 0
  | n + 1, h => by
    have h1 := sumF_sz (f := f) (b := b) n fun x hx => h x (Nat.lt_succ_of_lt hx)
    have h2 : (f n).natAbs < 2 ^ b := h n (Nat.lt_succ_self n)
    show (sumF f n + f n).natAbs ≤ (n + 1) * 2 ^ b
    rw [Nat.add_mul, Nat.one_mul]
    omega
theorem sumP_sz {K : PySem.W.Frag} {H : Hp} {p : Addr} {a b m n : Int} (L : Ln K H p a b m) (sn : Sz 1000 n) (hn : 0 ≤ n) : Sz 3002 (sumP a b m n.toNat) := by
  have h := sumF_sz (f := fun x => (a * x + b) / m) (b := 2001) n.toNat fun x hx => ?_
  · have h2 : n.toNat < 2 ^ 1000 := by
      unfold Sz at sn
      omega
    have h3 : n.toNat * 2 ^ 2001 ≤ 2 ^ 1000 * 2 ^ 2001 := Nat.mul_le_mul_right _ (Nat.le_of_lt h2)
    unfold Sz sumP
    rw [← Nat.pow_add] at h3
    exact Nat.lt_of_le_of_lt (Nat.le_trans h h3) (Nat.pow_lt_pow_right (by decide) (by decide))
  · have sx : Sz 1000 (x : Int) := sn.le (by omega) (by omega)
    exact ((L.sa.mul sx).add (L.sb.mono (by decide))).div L.pos
/-! ### sum_rests -/

def sp_sum_rests (K : PySem.W.Frag) : Sp := fun vs H Q _ => ∃ (p : Addr) (a b m n : Int), vs = [.ref p, .int n] ∧ Ln K H p a b m ∧ 0 ≤ n ∧ Sz 1000 n ∧ ∀ H', Same H H' → Q (.int (sumR a b m n.toNat)) H'
theorem ok_sum_rests {P : Program} {w : World} {K : PySem.W.Frag} {mg : Str → Option Value} {base : Heap} (T : Top w K mg base) : FnOk P w K mg base CX0 6 T.f_sum_rests T.fd_sum_rests ["line", "n"] (sp_sum_rests K) := by
  refine T.F_sum_rests.ok sc_sum_rests (fun vs H Q E h => ?_) (fun cdv A outer s H vs Q E hr h => ?_)
  · rcases h with ⟨p, a, b, m, n, rfl, _⟩ <;> rfl
  · obtain ⟨p, a, b, m, n, rfl, L, hn, sn, q⟩ := h
    refine ⟨_, (pss_cons (ps_expr (pe_call (ok_check_line T) (hr.mono (by decide)) (by rfl) T.g_check_line T.F_check_line.kp T.b_check_line .nil pass0 (pa_cons (pv 0) pa_nil)))
  (pss_cons (ps_asg (pv 0) (pg_tup rfl (pgs_cons (pg_name (i := 2) sc_sum_rests.nd rfl (Or.inl rfl)) (pgs_cons (pg_name (i := 3) sc_sum_rests.nd rfl (Or.inl rfl)) (pgs_cons (pg_name (i := 4) sc_sum_rests.nd rfl (Or.inl rfl)) pgs_nil)))))
  (pss_one (ps_ret (pe_op op_sub (pe_op op_add (pe_op op_mulG (pv 2) (pe_call (ok_sum_places T) (hr.mono (by decide)) (by rfl) T.g_sum_places T.F_sum_places.kp T.b_sum_places .nil pass0 (pa_cons (pv 1) pa_nil))) (pe_op op_mulG (pv 3) (pv 1))) (pe_op op_mulG (pv 4) (pe_call (ok_sum_parts T) (hr.mono (by decide)) (by rfl) T.g_sum_parts T.F_sum_parts.kp T.b_sum_parts .nil pass0 (pa_cons (pv 0) (pa_cons (pv 1) pa_nil))))))))), ?_⟩
    try rw [st_sum_rests]

    have st := tri_sz sn (by decide)
    have ok1 : IntMulOk a (tri n) := mul_ok L.sa st
    have ok2 : IntMulOk b n := mul_ok L.sb sn
    have nn : ((n.toNat : Nat) : Int) = n := Int.toNat_of_nonneg hn
    have hz := L.at_
    (repeat (with_reducible first | refine r_v0 ?_ | refine r_seq ?_ | refine r_drop ?_ | refine r_cons ?_ | refine r_nil ?_ | refine r_call ?_))
    refine ⟨p, a, b, m, rfl, hz, L.pos, ?_⟩
    (repeat (first | (with_reducible first | refine r_v0 ?_ | refine r_v1 ?_ | refine r_v2 ?_ | refine r_gn2 ?_ | refine r_gn3 ?_ | refine r_gn4 ?_ | refine r_seq ?_ | refine r_asg ?_ | refine r_op ?_ | refine r_ret ?_ | refine r_cons ?_ | refine r_nil ?_ | refine r_call ?_ | refine r_gcons ?_ | refine r_gnil ?_) | ((with_reducible refine' r_gtup ?zzs ?zzl ?_); (case zzs => assumption); (case zzl => exact rfl))))
    refine ⟨n, rfl, sn.mono (by decide), ?_⟩
    (repeat (first | (with_reducible first | refine r_v0 ?_ | refine r_v1 ?_ | refine r_v3 ?_ | refine r_v4 ?_ | refine r_op ?_ | refine r_I0 ?_ | refine r_cons ?_ | refine r_nil ?_ | refine r_call ?_) | ((with_reducible refine r_I ?zzc ?_); (case zzc => first | with_reducible assumption | ((with_reducible apply mul_okA); (repeat' (first | with_reducible assumption | with_reducible apply Sz.mul | with_reducible apply Sz.addM | with_reducible apply Sz.subM | with_reducible apply Sz.neg | exact Sz.lit | decide)); done) | (show (0 : Int) < _; first | with_reducible assumption | decide | omega) | exact mul_okL | exact mul_okR | exact mul_okM | (exact div_ok (by with_reducible assumption) (by with_reducible assumption)) | (exact ⟨by with_reducible assumption, by with_reducible assumption⟩) | (exact ⟨by decide, by decide, by decide⟩) | (exact ⟨by decide, by decide⟩)))))
    refine ⟨p, a, b, m, n, rfl, L, hn, sn, fun H1 s1 => ?_⟩
    have hR := sumR_eq a b m n.toNat
    rw [nn] at hR
    have ok3 : IntMulOk m (sumP a b m n.toNat) := mul_ok L.sm (sumP_sz L sn hn)
    (repeat (first | (with_reducible refine r_I0 ?_) | ((with_reducible refine r_I ?zzc ?_); (case zzc => first | with_reducible assumption | ((with_reducible apply mul_okA); (repeat' (first | with_reducible assumption | with_reducible apply Sz.mul | with_reducible apply Sz.addM | with_reducible apply Sz.subM | with_reducible apply Sz.neg | exact Sz.lit | decide)); done) | (show (0 : Int) < _; first | with_reducible assumption | decide | omega) | exact mul_okL | exact mul_okR | exact mul_okM | (exact div_ok (by with_reducible assumption) (by with_reducible assumption)) | (exact ⟨by with_reducible assumption, by with_reducible assumption⟩) | (exact ⟨by decide, by decide, by decide⟩) | (exact ⟨by decide, by decide⟩)))))
    rw [← hR]
    exact q _ s1
/-! ### sum_between -/

def sp_sum_between (K : PySem.W.Frag) : Sp := fun vs H Q _ => ∃ (p : Addr) (a b m low high : Int), vs = [.ref p, .int low, .int high] ∧ Ln K H p a b m ∧ Sz 400 a ∧ Sz 900 b ∧ Sz 400 low ∧ low ≤ high ∧ Sz 1000 (high - low) ∧ ∀ H', Same H H' → Q (.int (sumP a (a * low + b) m (high - low).toNat)) H'
theorem ok_sum_between {P : Program} {w : World} {K : PySem.W.Frag} {mg : Str → Option Value} {base : Heap} (T : Top w K mg base) : FnOk P w K mg base CX0 6 T.f_sum_between T.fd_sum_between ["line", "low", "high"] (sp_sum_between K) := by
  refine T.F_sum_between.ok sc_sum_between (fun vs H Q E h => ?_) (fun cdv A outer s H vs Q E hr h => ?_)
  · rcases h with ⟨p, a, b, m, low, high, rfl, _⟩ <;> rfl
  · obtain ⟨p, a, b, m, low, high, rfl, L, sa, sb, sl, hlh, sn, q⟩ := h
    refine ⟨_, (pss_cons (ps_expr (pe_call (ok_check_line T) (hr.mono (by decide)) (by rfl) T.g_check_line T.F_check_line.kp T.b_check_line .nil pass0 (pa_cons (pv 0) pa_nil)))
  (pss_cons (ps_expr (pe_call (ok_check_stretch T) (hr.mono (by decide)) (by rfl) T.g_check_stretch T.F_check_stretch.kp T.b_check_stretch .nil pass0 (pa_cons (pv 1) (pa_cons (pv 2) pa_nil))))
  (pss_cons (ps_set (i := 3) sc_sum_between.nd rfl (Or.inl rfl) (pe_tup (pa_cons (pe_ix ix_tup (pv 0) pe_int (fun _ _ => rfl)) (pa_cons (pe_call (ok_height_at T) (hr.mono (by decide)) (by rfl) T.g_height_at T.F_height_at.kp T.b_height_at .nil pass0 (pa_cons (pv 0) (pa_cons (pv 1) pa_nil))) (pa_cons (pe_ix ix_tup (pv 0) pe_int (fun _ _ => rfl)) pa_nil)))))
  (pss_one (ps_ret (pe_call (ok_sum_parts T) (hr.mono (by decide)) (by rfl) T.g_sum_parts T.F_sum_parts.kp T.b_sum_parts .nil pass0 (pa_cons (pv 3) (pa_cons (pe_op op_sub (pv 2) (pv 1)) pa_nil)))))))), ?_⟩
    try rw [st_sum_between]

    have hz := L.at_
    have ok := mul_ok sa sl
    (repeat (with_reducible first | refine r_v0 ?_ | refine r_seq ?_ | refine r_drop ?_ | refine r_cons ?_ | refine r_nil ?_ | refine r_call ?_))
    refine ⟨p, a, b, m, rfl, hz, L.pos, ?_⟩
    (repeat (with_reducible first | refine r_v1 ?_ | refine r_v2 ?_ | refine r_seq ?_ | refine r_drop ?_ | refine r_cons ?_ | refine r_nil ?_ | refine r_call ?_))
    refine ⟨low, high, rfl, hlh, ?_⟩
    (repeat (first | (with_reducible first | refine r_v0 ?_ | refine r_v1 ?_ | refine r_seq ?_ | refine r_asg ?_ | refine r_C ?_ | refine r_op ?_ | refine r_cons ?_ | refine r_nil ?_ | refine r_call ?_ | refine r_tup ?_) | ((with_reducible refine' r_ixT ?zzs ?zze ?_); (case zzs => assumption); (case zze => exact rfl))))
    refine ⟨p, a, b, m, low, rfl, hz, L.pos, ok, ?_⟩
    (repeat (first | (with_reducible first | refine r_v0 ?_ | refine r_C ?_ | refine r_op ?_ | refine r_cons ?_ | refine r_nil ?_) | ((with_reducible refine' r_ixT ?zzs ?zze ?_); (case zzs => assumption); (case zze => exact rfl))))
    refine r_litT fun p1 H1 n1 s1 e1 => ?_
    (repeat (with_reducible first | refine r_v1 ?_ | refine r_v2 ?_ | refine r_v3 ?_ | refine r_gn3 ?_ | refine r_op ?_ | refine r_I0 ?_ | refine r_ret ?_ | refine r_cons ?_ | refine r_nil ?_ | refine r_call ?_))
    refine ⟨p1, _, _, _, _, rfl, ⟨.inl (.inl e1), L.pos, L.sa, (((sa.mul sl).mono (by decide)).add sb).mono (by decide), L.sm⟩, by omega, sn, fun H2 s2 => ?_⟩
    exact q _ (s1.trans s2)
/-! ### paper_steps -/

def sp_paper_steps (K : PySem.W.Frag) : Sp := fun vs H Q _ => ∃ (p : Addr) (a b m n : Int) (l : List QuadP), vs = [.ref p, .int n] ∧ Ln K H p a b m ∧ Pa a b m n l ∧ ∀ (t : Addr) (vs : List V) H', Same H H' → H t = none → H' t = some (.lst vs) → PRw K H' vs (l.map fun t => (t, own t)) → Q (.ref t) H'
theorem ok_paper_steps {P : Program} {w : World} {K : PySem.W.Frag} {mg : Str → Option Value} {base : Heap} (T : Top w K mg base) : FnOk P w K mg base CX0 5 T.f_paper_steps T.fd_paper_steps ["line", "n"] (sp_paper_steps K) := by
  refine T.F_paper_steps.ok sc_paper_steps (fun vs H Q E h => ?_) (fun cdv A outer s H vs Q E hr h => ?_)
  · rcases h with ⟨p, a, b, m, n, l, rfl, _⟩ <;> rfl
  · obtain ⟨p, a, b, m, n, all, rfl, L, hall, q⟩ := h
    refine ⟨_, (pss_cons (ps_set (i := 2) sc_paper_steps.nd rfl (Or.inl rfl) (pe_lst pa_nil))
  (pss_cons (ps_while PassesOwn.never (pt_cmpR op_notN (pv 0) pe_non (nomark _))
  (pss_cons (ps_asg (pe_call (ok_laid_off T) (hr.mono (by decide)) (by rfl) T.g_laid_off T.F_laid_off.kp T.b_laid_off .nil pass0 (pa_cons (pv 0) pa_nil)) (pg_tup rfl (pgs_cons (pg_name (i := 3) sc_paper_steps.nd rfl (Or.inl rfl)) (pgs_cons (pg_name (i := 4) sc_paper_steps.nd rfl (Or.inl rfl)) (pgs_cons (pg_name (i := 5) sc_paper_steps.nd rfl (Or.inl rfl)) pgs_nil)))))
  (pss_cons (ps_expr (pe_bm PySem.F.plainAttrs_list PySem.F.slot_list_append PySem.F.type_list_append mt_append (pv 2) (pa_cons (pe_tup (pa_cons (pv 1) (pa_cons (pv 0) (pa_cons (pe_op op_add (pe_op op_mulG (pv 3) (pe_call (ok_sum_places T) (hr.mono (by decide)) (by rfl) T.g_sum_places T.F_sum_places.kp T.b_sum_places .nil pass0 (pa_cons (pv 1) pa_nil))) (pe_op op_mulG (pv 4) (pv 1))) pa_nil)))) pa_nil)))
  (pss_one (ps_asg (pe_call (ok_turned T) (hr.mono (by decide)) (by rfl) T.g_turned T.F_turned.kp T.b_turned .nil pass0 (pa_cons (pv 5) (pa_cons (pv 1) pa_nil))) (pg_tup rfl (pgs_cons (pg_name (i := 1) sc_paper_steps.nd rfl (Or.inl rfl)) (pgs_cons (pg_name (i := 0) sc_paper_steps.nd rfl (Or.inl rfl)) pgs_nil))))))))
  (pss_one (ps_ret (pv 2))))), ?_⟩
    try rw [st_paper_steps]

    (repeat (with_reducible first | refine r_seq ?_ | refine r_asg ?_ | refine r_nil ?_ | refine r_lst ?_))
    refine r_lit fun ps H0 np s0 e0 => ?_
    (repeat (with_reducible first | refine r_gn2 ?_ | refine r_seq ?_))
    refine r_while (fun j σ H' => ∃ (lv : V) (n' : Int) (v3 v4 v5 : Option V) (vs : List V) (ts : List QuadP), σ = [some lv, some (.int n'), some (.ref ps), v3, v4, v5] ∧ Same H H' ∧ H' ps = some (.lst vs) ∧ PRw K H' vs (ts.map fun t => (t, own t)) ∧ ((lv = .non ∧ ts = all) ∨
      ∃ (p' : Addr) (a' b' m' : Int) (l : List QuadP), lv = .ref p' ∧ Ln K H' p' a' b' m' ∧ Pa a' b' m' n' l ∧ ts ++ l = all ∧ j = l.length)) all.length
      ⟨_, n, none, none, none, [], [], rfl, s0, e0, trivial, .inr ⟨p, a, b, m, all, rfl, L.same s0, hall, rfl, rfl⟩⟩ ?_
    rintro j σ H1 ⟨lv, n', v3, v4, v5, vs, ts, rfl, s1, e1, R1, hh⟩
    have few := hall.few2
    rcases hh with ⟨rfl, rfl⟩ | ⟨p', a', b', m', l, rfl, L', hst, et, rfl⟩
    · (repeat (with_reducible first | refine r_v0 ?_ | refine r_C ?_ | refine r_op ?_ | refine r_test ?_ | refine r_bl ?_ | refine r_notN ?_))
      refine r_iteN (fun h => absurd rfl h) (fun _ => ?_)
      (repeat (with_reducible first | refine r_v2 ?_ | refine r_ret ?_))
      exact q _ _ _ s1 np e1 R1
    · (repeat (with_reducible first | refine r_v0 ?_ | refine r_C ?_ | refine r_op ?_ | refine r_test ?_ | refine r_bl ?_ | refine r_notN ?_))
      refine r_iteN (fun _ => ?_) (fun h => nomatch h)
      refine while_ok ?_
      obtain ⟨hm', _, _, _, hn', sn'⟩ := hst.pos
      have lg := lg_ok hm' L'.sm
      (repeat (with_reducible first | refine r_v0 ?_ | refine r_seq ?_ | refine r_asg ?_ | refine r_cons ?_ | refine r_nil ?_ | refine r_call ?_))
      refine ⟨p', a', b', m', rfl, L'.at_, hm', lg, fun t t' H2 s2 e2 e3 => ?_⟩
      have z3 : SqT K H2 t [.int (a' / m'), .int (b' / m'), .ref t'] := .inl (.inl e3)
      have e1' := s2 _ _ e1
      have L2 := L'.same s2
      have lts : ts.length + l.length ≤ 5000 := by
        rw [← List.length_append, et]
        exact few
      have lvs : vs.length < 10000 := by
        have := R1.len
        rw [List.length_map] at this
        omega
      (repeat (first | (with_reducible first | refine r_v2 ?_ | refine r_gn3 ?_ | refine r_gn4 ?_ | refine r_gn5 ?_ | refine r_seq ?_ | refine r_drop ?_ | refine r_gcons ?_ | refine r_gnil ?_ | refine r_bm ?_) | ((with_reducible refine' r_gtup ?zzs ?zzl ?_); (case zzs => assumption); (case zzl => exact rfl))))
      refine ⟨ty_list e1', ?_⟩
      have ok1 : IntMulOk (a' / m') (tri n') := mul_ok (L'.sa.div hm') (tri_sz sn' (by decide))
      have ok2 : IntMulOk (b' / m') n' := mul_ok (L'.sb.div hm') sn'
      (repeat (with_reducible first | refine r_v0 ?_ | refine r_v1 ?_ | refine r_v3 ?_ | refine r_op ?_ | refine r_cons ?_ | refine r_nil ?_ | refine r_call ?_ | refine r_tup ?_))
      refine ⟨n', rfl, sn'.mono (by decide), ?_⟩
      (repeat (first | (with_reducible first | refine r_v1 ?_ | refine r_v4 ?_ | refine r_op ?_ | refine r_I0 ?_ | refine r_nil ?_) | ((with_reducible refine r_I ?zzc ?_); (case zzc => first | with_reducible assumption | ((with_reducible apply mul_okA); (repeat' (first | with_reducible assumption | with_reducible apply Sz.mul | with_reducible apply Sz.addM | with_reducible apply Sz.subM | with_reducible apply Sz.neg | exact Sz.lit | decide)); done) | (show (0 : Int) < _; first | with_reducible assumption | decide | omega) | exact mul_okL | exact mul_okR | exact mul_okM | (exact div_ok (by with_reducible assumption) (by with_reducible assumption)) | (exact ⟨by with_reducible assumption, by with_reducible assumption⟩) | (exact ⟨by decide, by decide, by decide⟩) | (exact ⟨by decide, by decide⟩)))))
      refine r_litT fun p6 H6 n6 s6 e6 => ?_
      (repeat (with_reducible refine r_nil ?_))
      refine r_appP (s6 _ _ e1') lvs fun H7 e7 b7 => ?_
      have k7 : Tk H6 H7 := Tk.but (s6 _ _ e1') b7
      have e2' := k7.tup (s6 _ _ e2)
      have S7 : Same H H7 := same_butP ((s1.trans s2).trans s6) np b7
      have R7 : PRw K H7 (vs ++ [.ref p6]) ((ts ++ [(n', a', b', m')]).map fun t => (t, own t)) := by
        rw [List.map_append]
        exact PRw.app ⟨p6, p', rfl, k7.tup e6, k7.seqT (Same.seqT s6 L2.at_)⟩ (R1.more (((Tk.of s2).trans (Tk.of s6)).trans k7))
      have a0 := Int.emod_nonneg a' (b := m') (by omega)
      have a1 := Int.emod_lt_of_pos a' hm'
      have b0 := Int.emod_nonneg b' (b := m') (by omega)
      have b1 := Int.emod_lt_of_pos b' hm'
      have sa2 : Sz 1000 (a' % m') := L'.sm.mod hm'
      (repeat (with_reducible first | refine r_v1 ?_ | refine r_v5 ?_ | refine r_asg ?_ | refine r_cons ?_ | refine r_nil ?_ | refine r_call ?_))
      refine ⟨t', _, _, m', n', rfl, .inl (.inl e2'), a0, a1, b0, b1, lg, mul_ok sa2 sn', fun hk t8 H8 s8 e8 => ?_, fun hk t8 t9 H8 s8 e8 e9 => ?_⟩
      · have z8 : SqT K H8 t8 [.int 0, .non] := .inl (.inl e8)
        (repeat (first | (with_reducible first | refine r_gn0 ?_ | refine r_gn1 ?_ | refine r_gcons ?_ | refine r_gnil ?_) | ((with_reducible refine' r_gtup ?zzs ?zzl ?_); (case zzs => assumption); (case zzl => exact rfl))))
        cases hst with
        | step hm sa sb sm hn sn hk' h => exact absurd hk hk'
        | last hm sa sb sm hn sn hk' =>
        exact ⟨0, Nat.succ_pos _, _, _, _, _, _, _, _, rfl, S7.trans s8, s8 _ _ e7, R7.more (Tk.of s8), .inl ⟨rfl, et⟩⟩
      · have z8 : SqT K H8 t8 [.int ((a' % m' * n' + b' % m') / m'), .ref t9] := .inl (.inl e9)
        (repeat (first | (with_reducible first | refine r_gn0 ?_ | refine r_gn1 ?_ | refine r_gcons ?_ | refine r_gnil ?_) | ((with_reducible refine' r_gtup ?zzs ?zzl ?_); (case zzs => assumption); (case zzl => exact rfl))))
        cases hst with
        | last hm sa sb sm hn sn hk' => exact absurd hk' hk
        | @step _ _ _ _ l hm sa sb sm hn sn hk' h =>
        obtain ⟨c0, c1, d1, d2, k0, k1⟩ := turnP (a := a') (b := b') hm sm hn' sn' hk
        refine ⟨l.length, Nat.lt_succ_self _, _, _, _, _, _, _, _, rfl, S7.trans s8, s8 _ _ e7, R7.more (Tk.of s8), .inr ⟨t9, m', _, _, l, rfl, ⟨.inl (.inl e8), c0, sm, d2, d1⟩, h, ?_, rfl⟩⟩
        rw [List.append_assoc]
        exact et
/-! ### sum_paper -/

def sp_sum_paper (K : PySem.W.Frag) : Sp := fun vs H Q _ => ∃ (p : Addr) (a b m n : Int) (l : List QuadP), vs = [.ref p, .int n] ∧ Ln K H p a b m ∧ Pa a b m n l ∧ ∀ (t : Addr) (vs : List V) H', Same H H' → H' t = some (.tup vs) → PRw K H' vs (tots l) → Q (.ref t) H'
theorem ok_sum_paper {P : Program} {w : World} {K : PySem.W.Frag} {mg : Str → Option Value} {base : Heap} (T : Top w K mg base) : FnOk P w K mg base CX0 6 T.f_sum_paper T.fd_sum_paper ["line", "n"] (sp_sum_paper K) := by
  refine T.F_sum_paper.ok sc_sum_paper (fun vs H Q E h => ?_) (fun cdv A outer s H vs Q E hr h => ?_)
  · rcases h with ⟨p, a, b, m, n, l, rfl, _⟩ <;> rfl
  · obtain ⟨p, a, b, m, n, l, rfl, L, hall, q⟩ := h
    refine ⟨_, (pss_cons (ps_set (i := 2) sc_sum_paper.nd rfl (Or.inl rfl) (pe_lst pa_nil))
  (pss_cons (ps_set (i := 3) sc_sum_paper.nd rfl (Or.inl rfl) pe_int)
  (pss_cons (ps_for PassesOwn.never rfl (pi_reversed (by rfl) T.n_reversed (pa_cons (pe_call (ok_paper_steps T) (hr.mono (by decide)) (by rfl) T.g_paper_steps T.F_paper_steps.kp T.b_paper_steps .nil pass0 (pa_cons (pv 0) (pa_cons (pv 1) pa_nil))) pa_nil)) (pg_tup rfl (pgs_cons (pg_name (i := 4) sc_sum_paper.nd rfl (Or.inl rfl)) (pgs_cons (pg_name (i := 5) sc_sum_paper.nd rfl (Or.inl rfl)) (pgs_cons (pg_name (i := 6) sc_sum_paper.nd rfl (Or.inl rfl)) pgs_nil))))
  (pss_cons (ps_aug (i := 3) sc_sum_paper.nd rfl (Or.inl rfl) (pv 6) ip_add)
  (pss_one (ps_expr (pe_bm PySem.F.plainAttrs_list PySem.F.slot_list_append PySem.F.type_list_append mt_append (pv 2) (pa_cons (pe_tup (pa_cons (pv 4) (pa_cons (pv 5) (pa_cons (pv 3) pa_nil)))) pa_nil))))))
  (pss_one (ps_ret (pe_callTy call_tupN (by rfl) T.n_tuple (by decide +kernel) (pa_cons (pe_revL (pv 2)) pa_nil))))))), ?_⟩
    try rw [st_sum_paper]

    have few := hall.few2
    (repeat (with_reducible first | refine r_seq ?_ | refine r_asg ?_ | refine r_nil ?_ | refine r_lst ?_))
    refine r_lit fun pr H0 n0 s0 e0 => ?_
    (repeat (with_reducible first | refine r_v0 ?_ | refine r_v1 ?_ | refine r_gn2 ?_ | refine r_gn3 ?_ | refine r_seq ?_ | refine r_asg ?_ | refine r_C ?_ | refine r_cons ?_ | refine r_nil ?_ | refine r_call ?_ | refine r_for ?_ | refine r_rev ?_))
    refine ⟨p, a, b, m, n, l, rfl, L.same s0, hall, fun ps vs H1 s1 n1 e1 R1 => ?_⟩
    (repeat (with_reducible refine r_nil ?_))
    have len : vs.length = l.length := by
      have := R1.len
      rw [List.length_map] at this
      exact this
    refine ⟨ps, vs, rfl, .inl (.inl e1), ?_⟩
    have hne : ps ≠ pr := fun z => by
      subst z
      rw [e0] at n1
      cases n1
    refine loop_rev (fun i σ H' => ∃ (v4 v5 v6 : Option V) (rs : List V), σ = [some (.ref p), some (.int n), some (.ref pr), some (.int (sumO (l.drop (l.length - i)))), v4, v5, v6] ∧ Same H H' ∧ H' ps = some (.lst vs) ∧ H' pr = some (.lst rs) ∧ PRw K H' vs (l.map fun t => (t, own t)) ∧ PRw K H' rs (tots (l.drop (l.length - i))).reverse) ?_ ?_ ?_ ?_
    · refine ⟨none, none, none, [], ?_, s0.trans s1, e1, s1 _ _ e0, R1, ?_⟩
      · rw [Nat.sub_zero, List.drop_length]
        rfl
      · rw [Nat.sub_zero, List.drop_length]
        trivial
    · rintro i σ H' hi ⟨v4, v5, v6, rs, rfl, S, es, er, Rs, Rr⟩
      exact .inl (.inl es)
    · rintro i x σ H2 hi hx ⟨v4, v5, v6, rs, rfl, S, es, er, Rs, Rr⟩
      obtain ⟨t, ht, p2, pl, rfl, e2, e3⟩ := Rs.get hx
      rw [List.getElem?_map, len] at ht
      rw [len] at hi
      cases ht' : l[l.length - 1 - i]? with
      | none =>
        rw [ht'] at ht
        cases ht
      | some u =>
      rw [ht'] at ht
      cases ht
      have hb := drop_atP ht'
      rw [show l.length - 1 - i + 1 = l.length - i by omega] at hb
      have z2 : SqT K H2 p2 [.int u.1, .ref pl, .int (own u)] := .inl (.inl e2)
      have lrs : rs.length < 10000 := by
        have := Rr.len
        rw [List.length_reverse, tots_len, List.length_drop] at this
        omega
      have hv : sumO (l.drop (l.length - i)) + own u = sumO (l.drop (l.length - (i + 1))) := by
        rw [show l.length - (i + 1) = l.length - 1 - i by omega, hb]
        show _ = own u + sumO (l.drop (l.length - i))
        omega
      (repeat (first | (with_reducible first | refine r_v2 ?_ | refine r_v6 ?_ | refine r_gn4 ?_ | refine r_gn5 ?_ | refine r_gn6 ?_ | refine r_au3 ?_ | refine r_seq ?_ | refine r_drop ?_ | refine r_gcons ?_ | refine r_gnil ?_ | refine r_ipI ?_ | refine r_bm ?_) | ((with_reducible refine' r_gtup ?zzs ?zzl ?_); (case zzs => assumption); (case zzl => exact rfl))))
      refine ⟨ty_list er, ?_⟩
      (repeat (with_reducible first | refine r_v3 ?_ | refine r_v4 ?_ | refine r_v5 ?_ | refine r_cons ?_ | refine r_nil ?_ | refine r_tup ?_))
      refine r_litT fun p6 H6 n6 s6 e6 => ?_
      (repeat (with_reducible refine r_nil ?_))
      refine r_appP (s6 _ _ er) lrs fun H7 e7 b7 => ?_
      have k7 : Tk H6 H7 := Tk.but (s6 _ _ er) b7
      refine ⟨_, _, _, _, by rw [hv], same_butP (S.trans s6) n0 b7, b7 _ _ hne (s6 _ _ es), e7, Rs.more ((Tk.of s6).trans k7), ?_⟩
      rw [show l.length - (i + 1) = l.length - 1 - i by omega, hb]
      show PRw K H7 _ ((u, sumO (u :: l.drop (l.length - i))) :: tots (l.drop (l.length - i))).reverse
      rw [List.reverse_cons]
      refine PRw.app (t := (u, sumO (u :: l.drop (l.length - i)))) ⟨p6, pl, rfl, ?_, k7.seqT (Same.seqT s6 e3)⟩ (Rr.more ((Tk.of s6).trans k7))
      show H7 p6 = some (.tup [.int u.1, .ref pl, .int (sumO (u :: l.drop (l.length - i)))])
      rw [← hb, show l.length - 1 - i = l.length - (i + 1) by omega, ← hv]
      exact k7.tup e6
    · rintro σ H2 ⟨v4, v5, v6, rs, rfl, S, es, er, Rs, Rr⟩
      rw [len, Nat.sub_self, List.drop_zero] at Rr
      (repeat (with_reducible first | refine r_v2 ?_ | refine r_ret ?_ | refine r_cons ?_ | refine r_CB ?_ | refine r_revQ ?_))
      refine ⟨pr, rs, rfl, .inl (.inl er), r_newQ fun p8 H8 n8 s8 e8 => ?_⟩
      (repeat (with_reducible refine r_nil ?_))
      refine r_tupOf (.inl (.inl e8)) fun p9 H9 n9 s9 e9 => ?_
      have R8 := (Rr.rev).more (Tk.of (s8.trans s9))
      rw [List.reverse_reverse] at R8
      exact q _ _ _ ((S.trans s8).trans s9) e9 R8
/-! ### rounded_up -/

def sp_rounded_up (K : PySem.W.Frag) : Sp := fun vs H Q _ => ∃ (x y : Int), vs = [.int x, .int y] ∧ 0 < y ∧ y.natAbs.log2 < 9000 ∧ Q (.int (ceilD x y)) H
theorem ok_rounded_up {P : Program} {w : World} {K : PySem.W.Frag} {mg : Str → Option Value} {base : Heap} (T : Top w K mg base) : FnOk P w K mg base CX0 1 T.f_rounded_up T.fd_rounded_up ["number", "by"] (sp_rounded_up K) := by
  refine T.F_rounded_up.ok sc_rounded_up (fun vs H Q E h => ?_) (fun cdv A outer s H vs Q E hr h => ?_)
  · rcases h with ⟨x, y, rfl, _⟩ <;> rfl
  · obtain ⟨x, y, rfl, hy, lg, q⟩ := h
    refine ⟨_, (pss_one (ps_ret (pe_un un_neg (pe_op op_fdivW (pe_un un_neg (pv 0)) (pv 1))))), ?_⟩
    try rw [st_rounded_up]

    have hd : CDivW (-x) y := ⟨hy, lg⟩
    (repeat (first | (with_reducible first | refine r_v0 ?_ | refine r_v1 ?_ | refine r_op ?_ | refine r_un ?_ | refine r_U ?_ | refine r_ret ?_) | ((with_reducible refine r_I ?zzc ?_); (case zzc => first | with_reducible assumption | ((with_reducible apply mul_okA); (repeat' (first | with_reducible assumption | with_reducible apply Sz.mul | with_reducible apply Sz.addM | with_reducible apply Sz.subM | with_reducible apply Sz.neg | exact Sz.lit | decide)); done) | (show (0 : Int) < _; first | with_reducible assumption | decide | omega) | exact mul_okL | exact mul_okR | exact mul_okM | (exact div_ok (by with_reducible assumption) (by with_reducible assumption)) | (exact ⟨by with_reducible assumption, by with_reducible assumption⟩) | (exact ⟨by decide, by decide, by decide⟩) | (exact ⟨by decide, by decide⟩)))))
    exact q
/-! ### common_measure -/

def sp_common_measure (K : PySem.W.Frag) : Sp := fun vs H Q _ => ∃ (a : Int) (j : Nat), vs = [.int a, .int (j : Int)] ∧ 0 < j ∧ Q (.int (Int.gcd a j : Nat)) H
theorem ok_common_measure {P : Program} {w : World} {K : PySem.W.Frag} {mg : Str → Option Value} {base : Heap} (T : Top w K mg base) : FnOk P w K mg base CX0 1 T.f_common_measure T.fd_common_measure ["a", "m"] (sp_common_measure K) := by
  refine T.F_common_measure.ok sc_common_measure (fun vs H Q E h => ?_) (fun cdv A outer s H vs Q E hr h => ?_)
  · rcases h with ⟨a, j, rfl, _⟩ <;> rfl
  · obtain ⟨a, j, rfl, j0, q⟩ := h
    refine ⟨_, (pss_cons (ps_while PassesOwn.never (pt_cmpR op_ne (pv 1) pe_int (nomark _))
  (pss_one (ps_par (by rfl) sc_common_measure.nd rfl rfl (by decide) rfl rfl (pa_cons (pv 1) (pa_cons (pe_op op_mod (pv 0) (pv 1)) pa_nil)) (by rfl) (i := 0) (j := 1))))
  (pss_one (ps_ret (pv 0)))), ?_⟩
    try rw [st_common_measure]

    (repeat (with_reducible refine r_seq ?_))
    refine r_while (fun k σ H' => H' = H ∧ ((σ = [some (.int a), some (.int (j : Int))] ∧ k = j + 1) ∨ ∃ (x y : Nat), σ = [some (.int (x : Int)), some (.int (y : Int))] ∧ Nat.gcd x y = Int.gcd a j ∧ y ≤ k ∧ k ≤ j)) (j + 1) ⟨rfl, .inl ⟨rfl, rfl⟩⟩ ?_
    rintro k σ H' ⟨rfl, hh⟩
    rcases hh with ⟨rfl, rfl⟩ | ⟨x, y, rfl, hg, hy, hk⟩
    · (repeat (with_reducible first | refine r_v1 ?_ | refine r_C ?_ | refine r_op ?_ | refine r_test ?_ | refine r_bl ?_ | refine r_neI ?_))
      refine r_iteN (fun _ => ?_) (fun h => absurd h (by omega))
      refine while_ok ?_
      have m0 := Int.emod_nonneg a (b := (j : Int)) (by omega)
      have m1 := Int.emod_lt_of_pos a (show (0 : Int) < j by omega)
      obtain ⟨r, hr⟩ : ∃ r : Nat, a % (j : Int) = (r : Int) := ⟨(a % (j : Int)).toNat, by omega⟩
      (repeat (first | (with_reducible first | refine r_v0 ?_ | refine r_v1 ?_ | refine r_op ?_ | refine r_cons ?_ | refine r_nil ?_ | refine r_par ?_ | refine r_two ?_) | ((with_reducible refine r_I ?zzc ?_); (case zzc => first | with_reducible assumption | ((with_reducible apply mul_okA); (repeat' (first | with_reducible assumption | with_reducible apply Sz.mul | with_reducible apply Sz.addM | with_reducible apply Sz.subM | with_reducible apply Sz.neg | exact Sz.lit | decide)); done) | (show (0 : Int) < _; first | with_reducible assumption | decide | omega) | exact mul_okL | exact mul_okR | exact mul_okM | (exact div_ok (by with_reducible assumption) (by with_reducible assumption)) | (exact ⟨by with_reducible assumption, by with_reducible assumption⟩) | (exact ⟨by decide, by decide, by decide⟩) | (exact ⟨by decide, by decide⟩)))))
      rw [hr]
      refine ⟨j, by omega, rfl, .inr ⟨j, r, rfl, ?_, by omega, Nat.le_refl _⟩⟩
      have h1 : Int.gcd (a % (j : Int)) (j : Int) = Int.gcd a j := gcd_emodI a j j0
      rw [hr] at h1
      rw [← h1, Nat.gcd_comm]
      rfl
    · (repeat (with_reducible first | refine r_v1 ?_ | refine r_C ?_ | refine r_op ?_ | refine r_test ?_ | refine r_bl ?_ | refine r_neI ?_))
      refine r_iteN (fun h => ?_) (fun h => ?_)
      · refine while_ok ?_
        have y0 : 0 < y := by omega
        have e : (x : Int) % (y : Int) = ((x % y : Nat) : Int) := rfl
        (repeat (first | (with_reducible first | refine r_v0 ?_ | refine r_v1 ?_ | refine r_op ?_ | refine r_cons ?_ | refine r_nil ?_ | refine r_par ?_ | refine r_two ?_) | ((with_reducible refine r_I ?zzc ?_); (case zzc => first | with_reducible assumption | ((with_reducible apply mul_okA); (repeat' (first | with_reducible assumption | with_reducible apply Sz.mul | with_reducible apply Sz.addM | with_reducible apply Sz.subM | with_reducible apply Sz.neg | exact Sz.lit | decide)); done) | (show (0 : Int) < _; first | with_reducible assumption | decide | omega) | exact mul_okL | exact mul_okR | exact mul_okM | (exact div_ok (by with_reducible assumption) (by with_reducible assumption)) | (exact ⟨by with_reducible assumption, by with_reducible assumption⟩) | (exact ⟨by decide, by decide, by decide⟩) | (exact ⟨by decide, by decide⟩)))))
        refine ⟨y - 1, by omega, rfl, .inr ⟨y, x % y, rfl, ?_, by have := Nat.mod_lt x y0; omega, by omega⟩⟩
        rw [← hg, Nat.gcd_comm x y, Nat.gcd_rec y x, Nat.gcd_comm]
      · obtain rfl : y = 0 := by omega
        rw [Nat.gcd_zero_right] at hg
        (repeat (with_reducible first | refine r_v0 ?_ | refine r_ret ?_))
        rw [hg]
        exact q
/-! ### first_such -/

-- first_such serves with whatever it is handed
theorem uses_first_such {P : Program} {w : World} {K : PySem.W.Frag} {mg : Str → Option Value} {base : Heap} (T : Top w K mg base) : UsesL P w K mg base N_first_such "first_such" (defScope s_first_such) T.f_first_such (defBody s_first_such) "is_such" := by
  intro cdv A outer s H lo hi f Q tl act such
  obtain ⟨le, pr, hact, mono, q⟩ := such
  refine ⟨_, (pss_cons (ps_while PassesOwn.never (pt_cmpR op_lt (pv 0) (pv 1) (nomark _))
  (pss_cons (ps_set (i := 3) sc_first_such.nd rfl (Or.inl rfl) (pe_op op_fdivW (pe_op op_add (pv 0) (pv 1)) pe_int))
  (pss_one (ps_if (pt_val (act (pv 3) rfl)) (pss_one (ps_set (i := 1) sc_first_such.nd rfl (Or.inl rfl) (pv 3))) (pss_one (ps_set (i := 0) sc_first_such.nd rfl (Or.inl rfl) (pe_op op_add (pv 3) pe_int)))))))
  (pss_one (ps_ret (pv 0)))), ?_⟩
  rw [st_first_such]
  (repeat (with_reducible refine r_seq ?_))
  refine r_while (fun j σ H' => ∃ (l h : Int) (v3 : Option V), σ = [some (.int l), some (.int h), some (.ref f), v3] ∧ Same H H' ∧ lo ≤ l ∧ l ≤ h ∧ h ≤ hi ∧ (∀ x, lo ≤ x → x < l → pr x = false) ∧ (h < hi → pr h = true) ∧ j = (h - l).toNat) (hi - lo).toNat
    ⟨lo, hi, none, rfl, Same.refl _, Int.le_refl _, le, Int.le_refl _, fun x h1 h2 => absurd h1 (by omega), fun h => absurd h (by omega), rfl⟩ ?_
  rintro j σ H1 ⟨l, h, v3, rfl, s1, l0, lh, h1, fl, th, rfl⟩
  have cd : CDivW (l + h) 2 := ⟨by decide, by decide +kernel⟩
  (repeat (with_reducible first | refine r_v0 ?_ | refine r_v1 ?_ | refine r_op ?_ | refine r_I0 ?_ | refine r_test ?_ | refine r_bl ?_))
  refine r_ite (fun c => ?_) (fun c => ?_)
  · refine while_ok ?_
    (repeat (first | (with_reducible first | refine r_v0 ?_ | refine r_v1 ?_ | refine r_gn3 ?_ | refine r_seq ?_ | refine r_asg ?_ | refine r_C ?_ | refine r_op ?_ | refine r_I0 ?_ | refine r_if ?_ | refine r_B ?_) | ((with_reducible refine r_I ?zzc ?_); (case zzc => first | with_reducible assumption | ((with_reducible apply mul_okA); (repeat' (first | with_reducible assumption | with_reducible apply Sz.mul | with_reducible apply Sz.addM | with_reducible apply Sz.subM | with_reducible apply Sz.neg | exact Sz.lit | decide)); done) | (show (0 : Int) < _; first | with_reducible assumption | decide | omega) | exact mul_okL | exact mul_okR | exact mul_okM | (exact div_ok (by with_reducible assumption) (by with_reducible assumption)) | (exact ⟨by with_reducible assumption, by with_reducible assumption⟩) | (exact ⟨by decide, by decide, by decide⟩) | (exact ⟨by decide, by decide⟩)))))
    refine r_useV rfl ?_
    (repeat (with_reducible refine r_v3 ?_))
    generalize hmid : (l + h) / 2 = mid
    have m0 : l ≤ mid := by omega
    have m1 : mid < h := by omega
    refine hact mid H1 _ (by omega) (by omega) s1 fun H2 s2 => ?_
    (repeat (with_reducible refine r_bl ?_))
    refine r_itb (fun hp => ?_) (fun hp => ?_)
    · (repeat (with_reducible first | refine r_v3 ?_ | refine r_gn1 ?_ | refine r_asg ?_))
      exact ⟨(mid - l).toNat, by omega, l, mid, _, rfl, s1.trans s2, l0, by omega, by omega, fl, fun _ => hp, rfl⟩
    · (repeat (with_reducible first | refine r_v3 ?_ | refine r_gn0 ?_ | refine r_asg ?_ | refine r_C ?_ | refine r_op ?_ | refine r_I0 ?_))
      refine ⟨(h - (mid + 1)).toNat, by omega, mid + 1, h, _, rfl, s1.trans s2, by omega, by omega, h1, fun x hx0 hx1 => ?_, th, rfl⟩
      cases hpx : pr x with
      | false => rfl
      | true =>
        rw [mono x mid hx0 (by omega) (by omega) hpx] at hp
        cases hp
  · obtain rfl : l = h := by omega
    (repeat (with_reducible first | refine r_v0 ?_ | refine r_ret ?_))
    exact q l H1 s1 l0 h1 fl th
/-! ### check_between -/

def sp_check_between (K : PySem.W.Frag) : Sp := fun vs H Q _ => ∃ (pa pb : Addr) (low high : Int) (ab be : List Ln3), vs = [.ref pa, .ref pb, .int low, .int high] ∧ LsT K H pa ab ∧ LsT K H pb be ∧ Gd ab ∧ Gd be ∧ low ≤ high ∧ Q .non H
theorem ok_check_between {P : Program} {w : World} {K : PySem.W.Frag} {mg : Str → Option Value} {base : Heap} (T : Top w K mg base) : FnOk P w K mg base CX0 2 T.f_check_between T.fd_check_between ["above", "beneath", "low", "high"] (sp_check_between K) := by
  refine T.F_check_between.ok sc_check_between (fun vs H Q E h => ?_) (fun cdv A outer s H vs Q E hr h => ?_)
  · rcases h with ⟨pa, pb, low, high, ab, be, rfl, _⟩ <;> rfl
  · obtain ⟨pa, pb, low, high, ab, be, rfl, La, Lb, ga, gb, lh, q⟩ := h
    refine ⟨_, (pss_cons (ps_for PassesOwn.never rfl (pi_tup (pv 0)) (pg_name (i := 4) sc_check_between.nd rfl (Or.inl rfl))
  (pss_one (ps_expr (pe_call (ok_check_line T) (hr.mono (by decide)) (by rfl) T.g_check_line T.F_check_line.kp T.b_check_line .nil pass0 (pa_cons (pv 4) pa_nil)))))
  (pss_cons (ps_for PassesOwn.never rfl (pi_tup (pv 1)) (pg_name (i := 4) sc_check_between.nd rfl (Or.inl rfl))
  (pss_one (ps_expr (pe_call (ok_check_line T) (hr.mono (by decide)) (by rfl) T.g_check_line T.F_check_line.kp T.b_check_line .nil pass0 (pa_cons (pv 4) pa_nil)))))
  (pss_one (ps_expr (pe_call (ok_check_stretch T) (hr.mono (by decide)) (by rfl) T.g_check_stretch T.F_check_stretch.kp T.b_check_stretch .nil pass0 (pa_cons (pv 2) (pa_cons (pv 3) pa_nil))))))), ?_⟩
    try rw [st_check_between]

    obtain ⟨va, qa, ra⟩ := La
    obtain ⟨vb, qb, rb⟩ := Lb
    (repeat (with_reducible first | refine r_v0 ?_ | refine r_seq ?_ | refine r_for ?_ | refine r_iTup ?_))
    refine ⟨pa, rfl, ⟨_, qa⟩, ?_⟩
    refine for_tup (xs := va) (fun i σ H' => ∃ (v4 : Option V), σ = [some (.ref pa), some (.ref pb), some (.int low), some (.int high), v4] ∧ H' = H) ⟨none, rfl, rfl⟩ ?_ ?_ ?_
    · rintro i σ G hi ⟨v4, rfl, rfl⟩
      exact qa
    · rintro i x σ G hx ⟨v4, rfl, rfl⟩
      obtain ⟨pl, l, rfl, hl, el⟩ := ra.get hx
      (repeat (with_reducible first | refine r_v4 ?_ | refine r_gn4 ?_ | refine r_drop ?_ | refine r_cons ?_ | refine r_nil ?_ | refine r_call ?_))
      refine ⟨pl, _, _, _, rfl, .inl (.inl el), (ga l (List.mem_of_getElem? hl)).1, ?_⟩
      skip
      exact ⟨_, rfl, rfl⟩
    rintro σ G ⟨v4, rfl, rfl⟩
    (repeat (with_reducible first | refine r_v1 ?_ | refine r_seq ?_ | refine r_for ?_ | refine r_iTup ?_))
    refine ⟨pb, rfl, ⟨_, qb⟩, ?_⟩
    refine for_tup (xs := vb) (fun i σ H' => ∃ (v4 : Option V), σ = [some (.ref pa), some (.ref pb), some (.int low), some (.int high), v4] ∧ H' = G) ⟨_, rfl, rfl⟩ ?_ ?_ ?_
    · rintro i σ G hi ⟨v4, rfl, rfl⟩
      exact qb
    · rintro i x σ G hx ⟨v4, rfl, rfl⟩
      obtain ⟨pl, l, rfl, hl, el⟩ := rb.get hx
      (repeat (with_reducible first | refine r_v4 ?_ | refine r_gn4 ?_ | refine r_drop ?_ | refine r_cons ?_ | refine r_nil ?_ | refine r_call ?_))
      refine ⟨pl, _, _, _, rfl, .inl (.inl el), (gb l (List.mem_of_getElem? hl)).1, ?_⟩
      skip
      exact ⟨_, rfl, rfl⟩
    rintro σ G ⟨v4, rfl, rfl⟩
    (repeat (with_reducible first | refine r_v2 ?_ | refine r_v3 ?_ | refine r_drop ?_ | refine r_cons ?_ | refine r_nil ?_ | refine r_call ?_))
    refine ⟨low, high, rfl, lh, ?_⟩
    skip
    exact q
/-! ### kept -/

def sp_kept (K : PySem.W.Frag) : Sp := fun vs H Q _ => ∃ (p : Addr) (lo hi c d : Int), vs = [.ref p, .int c, .int d] ∧ SqT K H p [.int lo, .int hi] ∧ c.natAbs.log2 < 9000 ∧ ∀ (t : Addr) H', Same H H' → SqT K H' t [.int (keptF lo hi c d).1, .int (keptF lo hi c d).2] → Q (.ref t) H'
theorem ok_kept {P : Program} {w : World} {K : PySem.W.Frag} {mg : Str → Option Value} {base : Heap} (T : Top w K mg base) : FnOk P w K mg base CX0 2 T.f_kept T.fd_kept ["stretch", "c", "d"] (sp_kept K) := by
  refine T.F_kept.ok sc_kept (fun vs H Q E h => ?_) (fun cdv A outer s H vs Q E hr h => ?_)
  · rcases h with ⟨p, lo, hi, c, d, rfl, _⟩ <;> rfl
  · obtain ⟨p, lo, hi, c, d, rfl, hS, lg, q⟩ := h
    refine ⟨_, (pss_cons (ps_asg (pv 0) (pg_tup rfl (pgs_cons (pg_name (i := 3) sc_kept.nd rfl (Or.inl rfl)) (pgs_cons (pg_name (i := 4) sc_kept.nd rfl (Or.inl rfl)) pgs_nil))))
  (pss_cons (ps_if (pt_cmpR op_gt (pv 1) pe_int (nomark _)) (pss_one (ps_ret (pe_tup (pa_cons (pe_callB (call_min2 rfl) (by rfl) T.n_min (by decide +kernel) (pa_cons (pe_callB (call_max2 rfl) (by rfl) T.n_max (by decide +kernel) (pa_cons (pv 3) (pa_cons (pe_call (ok_rounded_up T) (hr.mono (by decide)) (by rfl) T.g_rounded_up T.F_rounded_up.kp T.b_rounded_up .nil pass0 (pa_cons (pv 2) (pa_cons (pv 1) pa_nil))) pa_nil))) (pa_cons (pv 4) pa_nil))) (pa_cons (pv 4) pa_nil))))) pss_nil)
  (pss_cons (ps_if (pt_cmpR op_lt (pv 1) pe_int (nomark _)) (pss_one (ps_ret (pe_tup (pa_cons (pv 3) (pa_cons (pe_callB (call_max2 rfl) (by rfl) T.n_max (by decide +kernel) (pa_cons (pe_callB (call_min2 rfl) (by rfl) T.n_min (by decide +kernel) (pa_cons (pv 4) (pa_cons (pe_op op_add (pe_op op_fdivS (pv 2) (pv 1)) pe_int) pa_nil))) (pa_cons (pv 3) pa_nil))) pa_nil))))) pss_nil)
  (pss_cons (ps_if (pt_cmpR op_gt (pv 2) pe_int (nomark _)) (pss_one (ps_ret (pe_tup (pa_cons (pv 3) (pa_cons (pv 3) pa_nil))))) pss_nil)
  (pss_one (ps_ret (pv 0))))))), ?_⟩
    try rw [st_kept]

    (repeat (first | (with_reducible first | refine r_v0 ?_ | refine r_v1 ?_ | refine r_gn3 ?_ | refine r_gn4 ?_ | refine r_seq ?_ | refine r_asg ?_ | refine r_C ?_ | refine r_op ?_ | refine r_I0 ?_ | refine r_if ?_ | refine r_test ?_ | refine r_bl ?_ | refine r_gcons ?_ | refine r_gnil ?_) | ((with_reducible refine' r_gtup ?zzs ?zzl ?_); (case zzs => assumption); (case zzl => exact rfl))))
    refine r_ite (fun c1 => ?_) (fun c1 => ?_)
    · (repeat (with_reducible first | refine r_v1 ?_ | refine r_v2 ?_ | refine r_v3 ?_ | refine r_ret ?_ | refine r_cons ?_ | refine r_nil ?_ | refine r_call ?_ | refine r_CB ?_ | refine r_tup ?_))
      refine ⟨_, _, rfl, c1, lg, ?_⟩
      (repeat (with_reducible first | refine r_v4 ?_ | refine r_cons ?_ | refine r_nil ?_ | refine r_max2 ?_))
      refine r_litT fun p1 H1 n1 s1 e1 => ?_
      refine q p1 H1 s1 (.inl (.inl ?_))
      unfold keptF
      rw [if_pos c1]
      exact e1
    have ok : c < 0 → c ≠ 0 ∧ c.natAbs.log2 < 9000 := fun h => ⟨by omega, lg⟩
    (repeat (with_reducible first | refine r_v1 ?_ | refine r_seq ?_ | refine r_next ?_ | refine r_C ?_ | refine r_op ?_ | refine r_I0 ?_ | refine r_if ?_ | refine r_test ?_ | refine r_bl ?_))
    refine r_ite (fun c2 => ?_) (fun c2 => ?_)
    · have ok := ok c2
      (repeat (first | (with_reducible first | refine r_v1 ?_ | refine r_v2 ?_ | refine r_v3 ?_ | refine r_v4 ?_ | refine r_C ?_ | refine r_op ?_ | refine r_I0 ?_ | refine r_ret ?_ | refine r_cons ?_ | refine r_nil ?_ | refine r_CB ?_ | refine r_tup ?_ | refine r_max2 ?_) | ((with_reducible refine r_I ?zzc ?_); (case zzc => first | with_reducible assumption | ((with_reducible apply mul_okA); (repeat' (first | with_reducible assumption | with_reducible apply Sz.mul | with_reducible apply Sz.addM | with_reducible apply Sz.subM | with_reducible apply Sz.neg | exact Sz.lit | decide)); done) | (show (0 : Int) < _; first | with_reducible assumption | decide | omega) | exact mul_okL | exact mul_okR | exact mul_okM | (exact div_ok (by with_reducible assumption) (by with_reducible assumption)) | (exact ⟨by with_reducible assumption, by with_reducible assumption⟩) | (exact ⟨by decide, by decide, by decide⟩) | (exact ⟨by decide, by decide⟩)))))
      refine r_litT fun p1 H1 n1 s1 e1 => ?_
      refine q p1 H1 s1 (.inl (.inl ?_))
      unfold keptF
      rw [if_neg c1, if_pos c2]
      exact e1
    (repeat (with_reducible first | refine r_v2 ?_ | refine r_seq ?_ | refine r_next ?_ | refine r_C ?_ | refine r_op ?_ | refine r_I0 ?_ | refine r_if ?_ | refine r_test ?_ | refine r_bl ?_))
    refine r_ite (fun c3 => ?_) (fun c3 => ?_)
    · (repeat (with_reducible first | refine r_v3 ?_ | refine r_ret ?_ | refine r_cons ?_ | refine r_nil ?_ | refine r_tup ?_))
      refine r_litT fun p1 H1 n1 s1 e1 => ?_
      refine q p1 H1 s1 (.inl (.inl ?_))
      unfold keptF
      rw [if_neg c1, if_neg c2, if_pos c3]
      exact e1
    · (repeat (with_reducible first | refine r_v0 ?_ | refine r_next ?_ | refine r_ret ?_))
      refine q p H (Same.refl _) ?_
      unfold keptF
      rw [if_neg c1, if_neg c2, if_neg c3]
      exact hS
/-! ### kept_no_higher -/

def sp_kept_no_higher (K : PySem.W.Frag) : Sp := fun vs H Q _ => ∃ (p pl po : Addr) (lo hi g : Int) (l o : Ln3), vs = [.ref p, .ref pl, .ref po, .int g] ∧ SqT K H p [.int lo, .int hi] ∧ SqT K H pl [.int l.1, .int l.2.1, .int l.2.2] ∧ SqT K H po [.int o.1, .int o.2.1, .int o.2.2] ∧ Sz 1000 l.1 ∧ Sz 1000 l.2.1 ∧ Sz 1000 l.2.2 ∧ Sz 1000 o.1 ∧ Sz 1000 o.2.1 ∧ Sz 1000 o.2.2 ∧ lo ≤ hi ∧
  ∀ (t : Addr) (lo' hi' : Int) H', Same H H' → SqT K H' t [.int lo', .int hi'] → lo ≤ lo' → lo' ≤ hi' → hi' ≤ hi → (∀ x : Int, lo ≤ x → x < hi → ((lo' ≤ x ∧ x < hi') ↔ Hle l o g x)) → Q (.ref t) H'
theorem ok_kept_no_higher {P : Program} {w : World} {K : PySem.W.Frag} {mg : Str → Option Value} {base : Heap} (T : Top w K mg base) : FnOk P w K mg base CX0 3 T.f_kept_no_higher T.fd_kept_no_higher ["stretch", "line", "other", "gap"] (sp_kept_no_higher K) := by
  refine T.F_kept_no_higher.ok sc_kept_no_higher (fun vs H Q E h => ?_) (fun cdv A outer s H vs Q E hr h => ?_)
  · rcases h with ⟨p, pl, po, lo, hi, g, l, o, rfl, _⟩ <;> rfl
  · obtain ⟨p, pl, po, lo, hi, g, l, o, rfl, h1, h2, h3, l1, l2, l3, o1, o2, o3, lh, q⟩ := h
    refine ⟨_, (pss_cons (ps_asg (pv 1) (pg_tup rfl (pgs_cons (pg_name (i := 4) sc_kept_no_higher.nd rfl (Or.inl rfl)) (pgs_cons (pg_name (i := 5) sc_kept_no_higher.nd rfl (Or.inl rfl)) (pgs_cons (pg_name (i := 6) sc_kept_no_higher.nd rfl (Or.inl rfl)) pgs_nil)))))
  (pss_cons (ps_asg (pv 2) (pg_tup rfl (pgs_cons (pg_name (i := 7) sc_kept_no_higher.nd rfl (Or.inl rfl)) (pgs_cons (pg_name (i := 8) sc_kept_no_higher.nd rfl (Or.inl rfl)) (pgs_cons (pg_name (i := 9) sc_kept_no_higher.nd rfl (Or.inl rfl)) pgs_nil)))))
  (pss_one (ps_ret (pe_call (ok_kept T) (hr.mono (by decide)) (by rfl) T.g_kept T.F_kept.kp T.b_kept .nil pass0 (pa_cons (pv 0) (pa_cons (pe_op op_sub (pe_op op_mulG (pv 7) (pv 6)) (pe_op op_mulG (pv 4) (pv 9))) (pa_cons (pe_op op_add (pe_op op_sub (pe_op op_mulG (pv 5) (pv 9)) (pe_op op_mulG (pv 8) (pv 6))) (pv 3)) pa_nil)))))))), ?_⟩
    try rw [st_kept_no_higher]

    have sc : Sz 2001 (o.1 * l.2.2 - l.1 * o.2.2) := (o1.mul l3).sub (l1.mul o3)
    have lg : (o.1 * l.2.2 - l.1 * o.2.2).natAbs.log2 < 9000 := by
      by_cases z : o.1 * l.2.2 - l.1 * o.2.2 = 0
      · rw [z]
        decide
      · exact Nat.lt_of_lt_of_le (PySem.Flt.log2_lt_of (by decide) sc) (by decide)
    (repeat (first | (with_reducible first | refine r_v0 ?_ | refine r_v1 ?_ | refine r_v2 ?_ | refine r_v3 ?_ | refine r_v4 ?_ | refine r_v5 ?_ | refine r_v6 ?_ | refine r_v7 ?_ | refine r_v8 ?_ | refine r_v9 ?_ | refine r_gn4 ?_ | refine r_gn5 ?_ | refine r_gn6 ?_ | refine r_gn7 ?_ | refine r_gn8 ?_ | refine r_gn9 ?_ | refine r_seq ?_ | refine r_asg ?_ | refine r_op ?_ | refine r_I0 ?_ | refine r_ret ?_ | refine r_cons ?_ | refine r_nil ?_ | refine r_call ?_ | refine r_gcons ?_ | refine r_gnil ?_) | ((with_reducible refine' r_gtup ?zzs ?zzl ?_); (case zzs => assumption); (case zzl => exact rfl)) | ((with_reducible refine r_I ?zzc ?_); (case zzc => first | with_reducible assumption | ((with_reducible apply mul_okA); (repeat' (first | with_reducible assumption | with_reducible apply Sz.mul | with_reducible apply Sz.addM | with_reducible apply Sz.subM | with_reducible apply Sz.neg | exact Sz.lit | decide)); done) | (show (0 : Int) < _; first | with_reducible assumption | decide | omega) | exact mul_okL | exact mul_okR | exact mul_okM | (exact div_ok (by with_reducible assumption) (by with_reducible assumption)) | (exact ⟨by with_reducible assumption, by with_reducible assumption⟩) | (exact ⟨by decide, by decide, by decide⟩) | (exact ⟨by decide, by decide⟩)))))
    refine ⟨p, lo, hi, _, _, rfl, h1, lg, fun t H1 s1 z1 => ?_⟩
    obtain ⟨k1, k2, k3, k4⟩ := kept_ok (c := o.1 * l.2.2 - l.1 * o.2.2) (d := l.2.1 * o.2.2 - o.2.1 * l.2.2 + g) lh
    exact q t _ _ H1 s1 z1 k1 k2 k3 fun x x0 x1 => (k4 x x0 x1).trans hle_lin.symm
/-! ### stretch_between -/

def sp_stretch_between (K : PySem.W.Frag) : Sp := fun vs H Q _ => ∃ (pa pb : Addr) (low high : Int) (ab be : List Ln3), vs = [.ref pa, .ref pb, .int low, .int high] ∧ LsT K H pa ab ∧ LsT K H pb be ∧ Gd ab ∧ Gd be ∧ low ≤ high ∧
  ∀ (t : Addr) (lo hi : Int) H', Same H H' → SqT K H' t [.int lo, .int hi] → Pin (fun x => ∀ l ∈ be, ∀ o ∈ ab, Hle l o 0 x) low high lo hi → Q (.ref t) H'
theorem ok_stretch_between {P : Program} {w : World} {K : PySem.W.Frag} {mg : Str → Option Value} {base : Heap} (T : Top w K mg base) : FnOk P w K mg base CX0 4 T.f_stretch_between T.fd_stretch_between ["above", "beneath", "low", "high"] (sp_stretch_between K) := by
  refine T.F_stretch_between.ok sc_stretch_between (fun vs H Q E h => ?_) (fun cdv A outer s H vs Q E hr h => ?_)
  · rcases h with ⟨pa, pb, low, high, ab, be, rfl, _⟩ <;> rfl
  · obtain ⟨pa, pb, low, high, ab, be, rfl, La, Lb, ga, gb, lh, q⟩ := h
    refine ⟨_, (pss_cons (ps_set (i := 4) sc_stretch_between.nd rfl (Or.inl rfl) (pe_tup (pa_cons (pv 2) (pa_cons (pv 3) pa_nil))))
  (pss_cons (ps_for PassesOwn.never rfl (pi_tup (pv 1)) (pg_name (i := 5) sc_stretch_between.nd rfl (Or.inl rfl))
  (pss_one (ps_for PassesOwn.never rfl (pi_tup (pv 0)) (pg_name (i := 6) sc_stretch_between.nd rfl (Or.inl rfl))
  (pss_one (ps_set (i := 4) sc_stretch_between.nd rfl (Or.inl rfl) (pe_call (ok_kept_no_higher T) (hr.mono (by decide)) (by rfl) T.g_kept_no_higher T.F_kept_no_higher.kp T.b_kept_no_higher .nil pass0 (pa_cons (pv 4) (pa_cons (pv 5) (pa_cons (pv 6) (pa_cons pe_int pa_nil))))))))))
  (pss_one (ps_ret (pv 4))))), ?_⟩
    try rw [st_stretch_between]

    obtain ⟨va, qa, ra⟩ := La
    obtain ⟨vb, qb, rb⟩ := Lb
    (repeat (with_reducible first | refine r_v2 ?_ | refine r_v3 ?_ | refine r_seq ?_ | refine r_asg ?_ | refine r_cons ?_ | refine r_nil ?_ | refine r_tup ?_))
    refine r_litT fun p1 H1 n1 s1 e1 => ?_
    (repeat (with_reducible first | refine r_v1 ?_ | refine r_gn4 ?_ | refine r_seq ?_ | refine r_for ?_ | refine r_iTup ?_))
    refine ⟨pb, rfl, ⟨_, Same.seqT s1 qb⟩, ?_⟩
    refine for_tup (xs := vb) (fun i σ H' => ∃ (t : Addr) (lo hi : Int) (v5 v6 : Option V), σ = [some (.ref pa), some (.ref pb), some (.int low), some (.int high), some (.ref t), v5, v6] ∧ Same H H' ∧ SqT K H' t [.int lo, .int hi] ∧ Pin (fun x => ∀ l ∈ be.take i, ∀ o ∈ ab, Hle l o 0 x) low high lo hi) ⟨p1, low, high, none, none, rfl, s1, .inl (.inl e1), Pin.start lh fun x l hl => nomatch hl⟩ ?_ ?_ ?_
    · rintro i σ G hi ⟨t, lo, hi', v5, v6, rfl, sG, _⟩
      exact Same.seqT sG qb
    · rintro i x σ G hx ⟨t, lo, hi', v5, v6, rfl, sG, zt, pin⟩
      obtain ⟨pl, l, rfl, hl, _⟩ := rb.get hx
      obtain ⟨m0, g1, g2, g3⟩ := gb l (List.mem_of_getElem? hl)
      (repeat (with_reducible first | refine r_v0 ?_ | refine r_gn5 ?_ | refine r_for ?_ | refine r_iTup ?_))
      refine ⟨pa, rfl, ⟨_, Same.seqT sG qa⟩, ?_⟩
      refine for_tup (xs := va) (fun j σ H' => ∃ (t : Addr) (lo hi : Int) (v6 : Option V), σ = [some (.ref pa), some (.ref pb), some (.int low), some (.int high), some (.ref t), some (.ref pl), v6] ∧ Same H H' ∧ SqT K H' t [.int lo, .int hi] ∧ Pin (fun x => (∀ l ∈ be.take i, ∀ o ∈ ab, Hle l o 0 x) ∧ ∀ o ∈ ab.take j, Hle l o 0 x) low high lo hi) ⟨t, lo, hi', v6, rfl, sG, zt, pin.iff fun x => ⟨fun z => ⟨z, fun o ho => nomatch ho⟩, fun z => z.1⟩⟩ ?_ ?_ ?_
      · rintro j σ G2 hj ⟨t, lo, hi', v6, rfl, sG2, _⟩
        exact Same.seqT sG2 qa
      · rintro j y σ G2 hy ⟨t, lo, hi', v6, rfl, sG2, zt, pin⟩
        obtain ⟨po, o, rfl, ho, _⟩ := ra.get hy
        obtain ⟨n0, k1, k2, k3⟩ := ga o (List.mem_of_getElem? ho)
        obtain ⟨_, _, e1', _, el⟩ := (rb.same sG2).get hx
        cases e1'
        rename_i l' hl'
        obtain rfl : l = l' := Option.some.inj (hl.symm.trans hl')
        obtain ⟨_, o', e2', ho', eo⟩ := (ra.same sG2).get hy
        cases e2'
        obtain rfl : o = o' := Option.some.inj (ho.symm.trans ho')
        (repeat (with_reducible first | refine r_v4 ?_ | refine r_v5 ?_ | refine r_v6 ?_ | refine r_gn6 ?_ | refine r_asg ?_ | refine r_C ?_ | refine r_cons ?_ | refine r_nil ?_ | refine r_call ?_))
        refine ⟨t, pl, po, lo, hi', 0, l, o, rfl, zt, .inl (.inl el), .inl (.inl eo), g1.mono (by decide), g2.mono (by decide), g3.mono (by decide), k1.mono (by decide), k2.mono (by decide), k3.mono (by decide), pin.2.1, fun t2 lo2 hi2 G3 s3 z3 c1 c2 c3 c4 => ?_⟩
        (repeat (with_reducible refine r_gn4 ?_))
        refine ⟨t2, lo2, hi2, _, rfl, sG2.trans s3, z3, pin.more ⟨c1, c2, c3, c4⟩ fun x => ?_⟩
        rw [take_iff ho]
        exact and_assoc.symm
      · rintro σ G2 ⟨t, lo, hi', v6, rfl, sG2, zt, pin⟩
        rw [ra.len, List.take_length] at pin
        exact ⟨t, lo, hi', _, _, rfl, sG2, zt, pin.iff fun x => (take_iff hl).symm⟩
    · rintro σ G ⟨t, lo, hi', v5, v6, rfl, sG, zt, pin⟩
      rw [rb.len, List.take_length] at pin
      (repeat (with_reducible first | refine r_v4 ?_ | refine r_ret ?_))
      exact q t lo hi' G sG zt pin
/-! ### stretch_of_least -/

def sp_stretch_of_least (K : PySem.W.Frag) : Sp := fun vs H Q _ => ∃ (pl p : Addr) (k : Nat) (lo hi : Int) (ls : List Ln3), vs = [.ref pl, .int (k : Int), .ref p] ∧ (LsL K H pl ls ∨ LsT K H pl ls) ∧ Gd ls ∧ k < ls.length ∧ SqT K H p [.int lo, .int hi] ∧ lo ≤ hi ∧
  ∀ (t : Addr) (lo' hi' : Int) H', Same H H' → SqT K H' t [.int lo', .int hi'] → Pin (Least ls ls.length k) lo hi lo' hi' → Q (.ref t) H'
theorem ok_stretch_of_least {P : Program} {w : World} {K : PySem.W.Frag} {mg : Str → Option Value} {base : Heap} (T : Top w K mg base) : FnOk P w K mg base CX0 4 T.f_stretch_of_least T.fd_stretch_of_least ["lines", "at", "stretch"] (sp_stretch_of_least K) := by
  refine T.F_stretch_of_least.ok sc_stretch_of_least (fun vs H Q E h => ?_) (fun cdv A outer s H vs Q E hr h => ?_)
  · rcases h with ⟨pl, p, k, lo, hi, ls, rfl, _⟩ <;> rfl
  · obtain ⟨pl, p, k, lo, hi, ls, rfl, hc, gd, hk, zp, lh, q⟩ := h
    refine ⟨_, (pss_cons (ps_for PassesOwn.never rfl (pi_enumA (by rfl) T.n_enumerate (pa_cons (pv 0) pa_nil)) (pg_tup rfl (pgs_cons (pg_name (i := 3) sc_stretch_of_least.nd rfl (Or.inl rfl)) (pgs_cons (pg_name (i := 4) sc_stretch_of_least.nd rfl (Or.inl rfl)) pgs_nil)))
  (pss_cons (ps_set (i := 5) sc_stretch_of_least.nd rfl (Or.inl rfl) (pe_ifExp (pt_cmpR op_lt (pv 3) (pv 1) (nomark _)) pe_int pe_int))
  (pss_one (ps_set (i := 2) sc_stretch_of_least.nd rfl (Or.inl rfl) (pe_call (ok_kept_no_higher T) (hr.mono (by decide)) (by rfl) T.g_kept_no_higher T.F_kept_no_higher.kp T.b_kept_no_higher .nil pass0 (pa_cons (pv 2) (pa_cons (pe_ix ix_seq (pv 0) (pv 1) (fun _ _ => rfl)) (pa_cons (pv 4) (pa_cons (pv 5) pa_nil)))))))))
  (pss_one (ps_ret (pv 2)))), ?_⟩
    try rw [st_stretch_of_least]

    have inv0 : Pin (Least ls 0 k) lo hi lo hi := Pin.start lh fun x j hj => absurd hj (Nat.not_lt_zero j)
    have step : ∀ {i : Nat} {lo1 hi1 lo2 hi2 : Int} {o : Ln3}, ls[i]? = some o → Pin (Least ls i k) lo hi lo1 hi1 → Pin (Hle (lnAt ls k) o (if i < k then 1 else 0)) lo1 hi1 lo2 hi2 → Pin (Least ls (i + 1) k) lo hi lo2 hi2 := fun {i lo1 hi1 lo2 hi2 o} ho h1 h2 => h1.more h2 fun x => by
      have e : lnAt ls i = o := by
        unfold lnAt
        rw [ho]
        rfl
      constructor
      · intro z
        refine ⟨fun j hj => z j (by omega), ?_⟩
        have := z i (Nat.lt_succ_self i)
        rw [e] at this
        exact this
      · rintro ⟨z1, z2⟩ j hj
        by_cases c : j < i
        · exact z1 j c
        · obtain rfl : j = i := by omega
          rw [e]
          exact z2
    obtain ⟨ll, hll⟩ : ∃ l, ls[k]? = some l := ⟨ls[k], List.getElem?_eq_getElem hk⟩
    have elk : lnAt ls k = ll := by
      unfold lnAt
      rw [hll]
      rfl
    obtain ⟨m0, g1, g2, g3⟩ := gd ll (List.mem_of_getElem? hll)
    rcases hc with ⟨vs, sq, r3⟩ | ⟨vs, sq, r3⟩
    · (repeat (with_reducible first | refine r_v0 ?_ | refine r_seq ?_ | refine r_cons ?_ | refine r_nil ?_ | refine r_for ?_ | refine r_enumA ?_))
      refine ⟨pl, vs, rfl, .inl ⟨sq, ?_⟩⟩
      refine loop_enL (fun i σ H' => ∃ (t : Addr) (lo1 hi1 : Int) (v3 v4 v5 : Option V), σ = [some (.ref pl), some (.int (k : Int)), some (.ref t), v3, v4, v5] ∧ Same H H' ∧ SqT K H' t [.int lo1, .int hi1] ∧ Pin (Least ls i k) lo hi lo1 hi1) ⟨p, lo, hi, none, none, none, rfl, Same.refl _, zp, inv0⟩ (fun i σ G _ ⟨_, _, _, _, _, _, _, sG, _⟩ => Same.seq sG sq) ?_ ?_
      · rintro i x qq σ G hx ⟨t, lo1, hi1, v3, v4, v5, rfl, sG, zt, pin⟩ nq
        have s2 := same_upd (o := .tup [V.int (i : Nat), x]) nq
        have zq : SqT K (upd G qq (.tup [V.int (i : Nat), x])) qq [V.int (i : Nat), x] := .inl (.inl upd_same)
        generalize upd G qq (.tup [V.int (i : Nat), x]) = G2 at *
        have S2 := sG.trans s2
        obtain ⟨po, o, rfl, ho, eo⟩ := (r3.same S2).get hx
        obtain ⟨n0, k1, k2, k3⟩ := gd o (List.mem_of_getElem? ho)
        have hvk : ∃ pk, vs[k]? = some (.ref pk) ∧ G2 pk = some (.tup [.int ll.1, .int ll.2.1, .int ll.2.2]) := by
          obtain ⟨v, hv⟩ : ∃ v, vs[k]? = some v := ⟨vs[k]'(by rw [r3.len]; exact hk), List.getElem?_eq_getElem _⟩
          obtain ⟨pk, l', rfl, hl', el⟩ := (r3.same S2).get hv
          obtain rfl : ll = l' := Option.some.inj (hll.symm.trans hl')
          exact ⟨pk, hv, el⟩
        obtain ⟨pk, hpk, ek⟩ := hvk
        have zt2 := Same.seqT s2 zt
        (repeat (first | (with_reducible first | refine r_v1 ?_ | refine r_v3 ?_ | refine r_gn3 ?_ | refine r_gn4 ?_ | refine r_seq ?_ | refine r_asg ?_ | refine r_op ?_ | refine r_I0 ?_ | refine r_test ?_ | refine r_bl ?_ | refine r_gcons ?_ | refine r_gnil ?_ | refine r_ifE ?_) | ((with_reducible refine' r_gtup ?zzs ?zzl ?_); (case zzs => assumption); (case zzl => exact rfl))))
        refine r_ite (fun c => ?_) (fun c => ?_)
        · (repeat (with_reducible first | refine r_v0 ?_ | refine r_v1 ?_ | refine r_v2 ?_ | refine r_gn5 ?_ | refine r_asg ?_ | refine r_C ?_ | refine r_op ?_ | refine r_cons ?_ | refine r_call ?_))
          refine .inl ⟨pl, vs, (k : Int), .ref pk, rfl, rfl, Same.seq S2 sq, atI_nat hpk, ?_⟩
          (repeat (with_reducible first | refine r_v4 ?_ | refine r_v5 ?_ | refine r_cons ?_ | refine r_nil ?_))
          refine ⟨t, pk, po, lo1, hi1, 1, ll, o, rfl, zt2, .inl (.inl ek), .inl (.inl eo), g1.mono (by decide), g2.mono (by decide), g3.mono (by decide), k1.mono (by decide), k2.mono (by decide), k3.mono (by decide), pin.2.1, fun t2 lo2 hi2 G3 s3 z3 c1 c2 c3 c4 => ?_⟩
          (repeat (with_reducible refine r_gn2 ?_))
          refine ⟨t2, lo2, hi2, _, _, _, rfl, S2.trans s3, z3, step ho pin ?_⟩
          rw [elk, if_pos (show i < k by omega)]
          exact ⟨c1, c2, c3, c4⟩
        · (repeat (with_reducible first | refine r_v0 ?_ | refine r_v1 ?_ | refine r_v2 ?_ | refine r_gn5 ?_ | refine r_asg ?_ | refine r_C ?_ | refine r_op ?_ | refine r_cons ?_ | refine r_call ?_))
          refine .inl ⟨pl, vs, (k : Int), .ref pk, rfl, rfl, Same.seq S2 sq, atI_nat hpk, ?_⟩
          (repeat (with_reducible first | refine r_v4 ?_ | refine r_v5 ?_ | refine r_cons ?_ | refine r_nil ?_))
          refine ⟨t, pk, po, lo1, hi1, 0, ll, o, rfl, zt2, .inl (.inl ek), .inl (.inl eo), g1.mono (by decide), g2.mono (by decide), g3.mono (by decide), k1.mono (by decide), k2.mono (by decide), k3.mono (by decide), pin.2.1, fun t2 lo2 hi2 G3 s3 z3 c1 c2 c3 c4 => ?_⟩
          (repeat (with_reducible refine r_gn2 ?_))
          refine ⟨t2, lo2, hi2, _, _, _, rfl, S2.trans s3, z3, step ho pin ?_⟩
          rw [elk, if_neg (show ¬ i < k by omega)]
          exact ⟨c1, c2, c3, c4⟩
      · rintro σ G ⟨t, lo1, hi1, v3, v4, v5, rfl, sG, zt, pin⟩
        rw [r3.len] at pin
        (repeat (with_reducible first | refine r_v2 ?_ | refine r_ret ?_))
        exact q t lo1 hi1 G sG zt pin
    · (repeat (with_reducible first | refine r_v0 ?_ | refine r_seq ?_ | refine r_cons ?_ | refine r_nil ?_ | refine r_for ?_ | refine r_enumA ?_))
      refine ⟨pl, vs, rfl, .inr ⟨sq, ?_⟩⟩
      refine loop_enT (fun i σ H' => ∃ (t : Addr) (lo1 hi1 : Int) (v3 v4 v5 : Option V), σ = [some (.ref pl), some (.int (k : Int)), some (.ref t), v3, v4, v5] ∧ Same H H' ∧ SqT K H' t [.int lo1, .int hi1] ∧ Pin (Least ls i k) lo hi lo1 hi1) ⟨p, lo, hi, none, none, none, rfl, Same.refl _, zp, inv0⟩ (fun i σ G _ ⟨_, _, _, _, _, _, _, sG, _⟩ => Same.seqT sG sq) ?_ ?_
      · rintro i x qq σ G hx ⟨t, lo1, hi1, v3, v4, v5, rfl, sG, zt, pin⟩ nq
        have s2 := same_upd (o := .tup [V.int (i : Nat), x]) nq
        have zq : SqT K (upd G qq (.tup [V.int (i : Nat), x])) qq [V.int (i : Nat), x] := .inl (.inl upd_same)
        generalize upd G qq (.tup [V.int (i : Nat), x]) = G2 at *
        have S2 := sG.trans s2
        obtain ⟨po, o, rfl, ho, eo⟩ := (r3.same S2).get hx
        obtain ⟨n0, k1, k2, k3⟩ := gd o (List.mem_of_getElem? ho)
        have hvk : ∃ pk, vs[k]? = some (.ref pk) ∧ G2 pk = some (.tup [.int ll.1, .int ll.2.1, .int ll.2.2]) := by
          obtain ⟨v, hv⟩ : ∃ v, vs[k]? = some v := ⟨vs[k]'(by rw [r3.len]; exact hk), List.getElem?_eq_getElem _⟩
          obtain ⟨pk, l', rfl, hl', el⟩ := (r3.same S2).get hv
          obtain rfl : ll = l' := Option.some.inj (hll.symm.trans hl')
          exact ⟨pk, hv, el⟩
        obtain ⟨pk, hpk, ek⟩ := hvk
        have zt2 := Same.seqT s2 zt
        (repeat (first | (with_reducible first | refine r_v1 ?_ | refine r_v3 ?_ | refine r_gn3 ?_ | refine r_gn4 ?_ | refine r_seq ?_ | refine r_asg ?_ | refine r_op ?_ | refine r_I0 ?_ | refine r_test ?_ | refine r_bl ?_ | refine r_gcons ?_ | refine r_gnil ?_ | refine r_ifE ?_) | ((with_reducible refine' r_gtup ?zzs ?zzl ?_); (case zzs => assumption); (case zzl => exact rfl))))
        refine r_ite (fun c => ?_) (fun c => ?_)
        · (repeat (with_reducible first | refine r_v0 ?_ | refine r_v1 ?_ | refine r_v2 ?_ | refine r_gn5 ?_ | refine r_asg ?_ | refine r_C ?_ | refine r_op ?_ | refine r_cons ?_ | refine r_call ?_))
          refine .inr (.inl ⟨pl, vs, (k : Int), .ref pk, rfl, rfl, Same.seqT S2 sq, atI_nat hpk, ?_⟩)
          (repeat (with_reducible first | refine r_v4 ?_ | refine r_v5 ?_ | refine r_cons ?_ | refine r_nil ?_))
          refine ⟨t, pk, po, lo1, hi1, 1, ll, o, rfl, zt2, .inl (.inl ek), .inl (.inl eo), g1.mono (by decide), g2.mono (by decide), g3.mono (by decide), k1.mono (by decide), k2.mono (by decide), k3.mono (by decide), pin.2.1, fun t2 lo2 hi2 G3 s3 z3 c1 c2 c3 c4 => ?_⟩
          (repeat (with_reducible refine r_gn2 ?_))
          refine ⟨t2, lo2, hi2, _, _, _, rfl, S2.trans s3, z3, step ho pin ?_⟩
          rw [elk, if_pos (show i < k by omega)]
          exact ⟨c1, c2, c3, c4⟩
        · (repeat (with_reducible first | refine r_v0 ?_ | refine r_v1 ?_ | refine r_v2 ?_ | refine r_gn5 ?_ | refine r_asg ?_ | refine r_C ?_ | refine r_op ?_ | refine r_cons ?_ | refine r_call ?_))
          refine .inr (.inl ⟨pl, vs, (k : Int), .ref pk, rfl, rfl, Same.seqT S2 sq, atI_nat hpk, ?_⟩)
          (repeat (with_reducible first | refine r_v4 ?_ | refine r_v5 ?_ | refine r_cons ?_ | refine r_nil ?_))
          refine ⟨t, pk, po, lo1, hi1, 0, ll, o, rfl, zt2, .inl (.inl ek), .inl (.inl eo), g1.mono (by decide), g2.mono (by decide), g3.mono (by decide), k1.mono (by decide), k2.mono (by decide), k3.mono (by decide), pin.2.1, fun t2 lo2 hi2 G3 s3 z3 c1 c2 c3 c4 => ?_⟩
          (repeat (with_reducible refine r_gn2 ?_))
          refine ⟨t2, lo2, hi2, _, _, _, rfl, S2.trans s3, z3, step ho pin ?_⟩
          rw [elk, if_neg (show ¬ i < k by omega)]
          exact ⟨c1, c2, c3, c4⟩
      · rintro σ G ⟨t, lo1, hi1, v3, v4, v5, rfl, sG, zt, pin⟩
        rw [r3.len] at pin
        (repeat (with_reducible first | refine r_v2 ?_ | refine r_ret ?_))
        exact q t lo1 hi1 G sG zt pin
/-! ### sum_least -/

def sp_sum_least (K : PySem.W.Frag) : Sp := fun vs H Q _ => ∃ (pl p : Addr) (lo hi : Int) (ls : List Ln3), vs = [.ref pl, .ref p] ∧ (LsL K H pl ls ∨ LsT K H pl ls) ∧ Gd ls ∧ SqT K H p [.int lo, .int hi] ∧ lo ≤ hi ∧ Sz 390 lo ∧ Sz 390 hi ∧ ∀ H', Same H H' → Q (.int (sumZ (minP ls) lo hi)) H'
theorem ok_sum_least {P : Program} {w : World} {K : PySem.W.Frag} {mg : Str → Option Value} {base : Heap} (T : Top w K mg base) : FnOk P w K mg base CX0 7 T.f_sum_least T.fd_sum_least ["lines", "stretch"] (sp_sum_least K) := by
  refine T.F_sum_least.ok sc_sum_least (fun vs H Q E h => ?_) (fun cdv A outer s H vs Q E hr h => ?_)
  · rcases h with ⟨pl, p, lo, hi, ls, rfl, _⟩ <;> rfl
  · obtain ⟨pl, p, lo, hi, ls, rfl, hc, gd, zp, lh, slo, shi, q⟩ := h
    refine ⟨_, (pss_cons (ps_set (i := 2) sc_sum_least.nd rfl (Or.inl rfl) pe_int)
  (pss_cons (ps_for PassesOwn.never rfl (pi_enumA (by rfl) T.n_enumerate (pa_cons (pv 0) pa_nil)) (pg_tup rfl (pgs_cons (pg_name (i := 3) sc_sum_least.nd rfl (Or.inl rfl)) (pgs_cons (pg_name (i := 4) sc_sum_least.nd rfl (Or.inl rfl)) pgs_nil)))
  (pss_cons (ps_asg (pe_call (ok_stretch_of_least T) (hr.mono (by decide)) (by rfl) T.g_stretch_of_least T.F_stretch_of_least.kp T.b_stretch_of_least .nil pass0 (pa_cons (pv 0) (pa_cons (pv 3) (pa_cons (pv 1) pa_nil)))) (pg_tup rfl (pgs_cons (pg_name (i := 5) sc_sum_least.nd rfl (Or.inl rfl)) (pgs_cons (pg_name (i := 6) sc_sum_least.nd rfl (Or.inl rfl)) pgs_nil))))
  (pss_one (ps_aug (i := 2) sc_sum_least.nd rfl (Or.inl rfl) (pe_call (ok_sum_between T) (hr.mono (by decide)) (by rfl) T.g_sum_between T.F_sum_between.kp T.b_sum_between .nil pass0 (pa_cons (pv 4) (pa_cons (pv 5) (pa_cons (pv 6) pa_nil)))) ip_add))))
  (pss_one (ps_ret (pv 2))))), ?_⟩
    try rw [st_sum_least]

    have ends : ∀ z : Int, lo ≤ z → z ≤ hi → Sz 400 z := fun z z0 z1 => by
      unfold Sz at *
      have : (2 : Nat) ^ 390 ≤ 2 ^ 400 := Nat.pow_le_pow_right (by decide) (by decide)
      omega
    rcases hc with ⟨vs, sq, r3⟩ | ⟨vs, sq, r3⟩
    · (repeat (with_reducible first | refine r_v0 ?_ | refine r_gn2 ?_ | refine r_seq ?_ | refine r_asg ?_ | refine r_C ?_ | refine r_cons ?_ | refine r_nil ?_ | refine r_for ?_ | refine r_enumA ?_))
      refine ⟨pl, vs, rfl, .inl ⟨sq, ?_⟩⟩
      refine loop_enL (fun i σ H' => ∃ (v3 v4 v5 v6 : Option V), σ = [some (.ref pl), some (.ref p), some (.int (sumF (fun k => sumZ (fun x => if Least ls ls.length k x then prt (lnAt ls k) x else 0) lo hi) i)), v3, v4, v5, v6] ∧ Same H H') ⟨none, none, none, none, rfl, Same.refl _⟩ (fun i σ G _ ⟨_, _, _, _, _, sG⟩ => Same.seq sG sq) ?_ ?_
      · rintro i x qq σ G hx ⟨v3, v4, v5, v6, rfl, sG⟩ nq
        have s2 := same_upd (o := .tup [V.int (i : Nat), x]) nq
        have zq : SqT K (upd G qq (.tup [V.int (i : Nat), x])) qq [V.int (i : Nat), x] := .inl (.inl upd_same)
        generalize upd G qq (.tup [V.int (i : Nat), x]) = G2 at *
        have S2 := sG.trans s2
        obtain ⟨po, o, rfl, ho, eo⟩ := (r3.same S2).get hx
        obtain ⟨n0, k1, k2, k3⟩ := gd o (List.mem_of_getElem? ho)
        have hi' : i < ls.length := (List.getElem?_eq_some_iff.mp ho).1
        have e : lnAt ls i = o := by
          unfold lnAt
          rw [ho]
          rfl
        (repeat (first | (with_reducible first | refine r_v0 ?_ | refine r_v1 ?_ | refine r_v3 ?_ | refine r_gn3 ?_ | refine r_gn4 ?_ | refine r_seq ?_ | refine r_asg ?_ | refine r_cons ?_ | refine r_nil ?_ | refine r_call ?_ | refine r_gcons ?_ | refine r_gnil ?_) | ((with_reducible refine' r_gtup ?zzs ?zzl ?_); (case zzs => assumption); (case zzl => exact rfl))))
        refine ⟨pl, p, i, lo, hi, ls, rfl, .inl ⟨vs, Same.seq S2 sq, r3.same S2⟩, gd, hi', Same.seqT S2 zp, lh, fun t lo1 hi1 G3 s3 z3 pin => ?_⟩
        obtain ⟨c1, c2, c3, c4⟩ := pin
        have slo1 : Sz 400 lo1 := ends lo1 c1 (by omega)
        have shi1 : Sz 400 hi1 := ends hi1 (by omega) c3
        (repeat (first | (with_reducible first | refine r_v4 ?_ | refine r_v5 ?_ | refine r_v6 ?_ | refine r_gn5 ?_ | refine r_gn6 ?_ | refine r_au2 ?_ | refine r_cons ?_ | refine r_nil ?_ | refine r_call ?_ | refine r_gcons ?_ | refine r_gnil ?_) | ((with_reducible refine' r_gtup ?zzs ?zzl ?_); (case zzs => assumption); (case zzl => exact rfl))))
        refine ⟨po, o.1, o.2.1, o.2.2, lo1, hi1, rfl, ⟨.inl (.inl (s3 _ _ eo)), n0, k1.mono (by decide), k2.mono (by decide), k3.mono (by decide)⟩, k1, k2, slo1, c2, (shi1.sub slo1).mono (by decide), fun G4 s4 => ?_⟩
        (repeat (with_reducible refine r_ipI ?_))
        refine ⟨some (.int (i : Int)), some (.ref po), some (.int lo1), some (.int hi1), ?_, (S2.trans s3).trans s4⟩
        have e1 : sumP o.1 (o.1 * lo1 + o.2.1) o.2.2 (hi1 - lo1).toNat = sumZ (fun x => if Least ls ls.length i x then prt (lnAt ls i) x else 0) lo hi := by
          rw [← sumZ_sub (f := prt (lnAt ls i)) c1 c2 c3 (Least ls ls.length i) c4, e]
          unfold sumP sumZ prt
          refine sumF_congr fun x _ => ?_
          congr 1
          grind
        rw [e1]
        rfl
      · rintro σ G ⟨v3, v4, v5, v6, rfl, sG⟩
        rw [r3.len, sum_minP]
        (repeat (with_reducible first | refine r_v2 ?_ | refine r_ret ?_))
        exact q G sG
    · (repeat (with_reducible first | refine r_v0 ?_ | refine r_gn2 ?_ | refine r_seq ?_ | refine r_asg ?_ | refine r_C ?_ | refine r_cons ?_ | refine r_nil ?_ | refine r_for ?_ | refine r_enumA ?_))
      refine ⟨pl, vs, rfl, .inr ⟨sq, ?_⟩⟩
      refine loop_enT (fun i σ H' => ∃ (v3 v4 v5 v6 : Option V), σ = [some (.ref pl), some (.ref p), some (.int (sumF (fun k => sumZ (fun x => if Least ls ls.length k x then prt (lnAt ls k) x else 0) lo hi) i)), v3, v4, v5, v6] ∧ Same H H') ⟨none, none, none, none, rfl, Same.refl _⟩ (fun i σ G _ ⟨_, _, _, _, _, sG⟩ => Same.seqT sG sq) ?_ ?_
      · rintro i x qq σ G hx ⟨v3, v4, v5, v6, rfl, sG⟩ nq
        have s2 := same_upd (o := .tup [V.int (i : Nat), x]) nq
        have zq : SqT K (upd G qq (.tup [V.int (i : Nat), x])) qq [V.int (i : Nat), x] := .inl (.inl upd_same)
        generalize upd G qq (.tup [V.int (i : Nat), x]) = G2 at *
        have S2 := sG.trans s2
        obtain ⟨po, o, rfl, ho, eo⟩ := (r3.same S2).get hx
        obtain ⟨n0, k1, k2, k3⟩ := gd o (List.mem_of_getElem? ho)
        have hi' : i < ls.length := (List.getElem?_eq_some_iff.mp ho).1
        have e : lnAt ls i = o := by
          unfold lnAt
          rw [ho]
          rfl
        (repeat (first | (with_reducible first | refine r_v0 ?_ | refine r_v1 ?_ | refine r_v3 ?_ | refine r_gn3 ?_ | refine r_gn4 ?_ | refine r_seq ?_ | refine r_asg ?_ | refine r_cons ?_ | refine r_nil ?_ | refine r_call ?_ | refine r_gcons ?_ | refine r_gnil ?_) | ((with_reducible refine' r_gtup ?zzs ?zzl ?_); (case zzs => assumption); (case zzl => exact rfl))))
        refine ⟨pl, p, i, lo, hi, ls, rfl, .inr ⟨vs, Same.seqT S2 sq, r3.same S2⟩, gd, hi', Same.seqT S2 zp, lh, fun t lo1 hi1 G3 s3 z3 pin => ?_⟩
        obtain ⟨c1, c2, c3, c4⟩ := pin
        have slo1 : Sz 400 lo1 := ends lo1 c1 (by omega)
        have shi1 : Sz 400 hi1 := ends hi1 (by omega) c3
        (repeat (first | (with_reducible first | refine r_v4 ?_ | refine r_v5 ?_ | refine r_v6 ?_ | refine r_gn5 ?_ | refine r_gn6 ?_ | refine r_au2 ?_ | refine r_cons ?_ | refine r_nil ?_ | refine r_call ?_ | refine r_gcons ?_ | refine r_gnil ?_) | ((with_reducible refine' r_gtup ?zzs ?zzl ?_); (case zzs => assumption); (case zzl => exact rfl))))
        refine ⟨po, o.1, o.2.1, o.2.2, lo1, hi1, rfl, ⟨.inl (.inl (s3 _ _ eo)), n0, k1.mono (by decide), k2.mono (by decide), k3.mono (by decide)⟩, k1, k2, slo1, c2, (shi1.sub slo1).mono (by decide), fun G4 s4 => ?_⟩
        (repeat (with_reducible refine r_ipI ?_))
        refine ⟨some (.int (i : Int)), some (.ref po), some (.int lo1), some (.int hi1), ?_, (S2.trans s3).trans s4⟩
        have e1 : sumP o.1 (o.1 * lo1 + o.2.1) o.2.2 (hi1 - lo1).toNat = sumZ (fun x => if Least ls ls.length i x then prt (lnAt ls i) x else 0) lo hi := by
          rw [← sumZ_sub (f := prt (lnAt ls i)) c1 c2 c3 (Least ls ls.length i) c4, e]
          unfold sumP sumZ prt
          refine sumF_congr fun x _ => ?_
          congr 1
          grind
        rw [e1]
        rfl
      · rintro σ G ⟨v3, v4, v5, v6, rfl, sG⟩
        rw [r3.len, sum_minP]
        (repeat (with_reducible first | refine r_v2 ?_ | refine r_ret ?_))
        exact q G sG
/-! ### upside_down -/

def sp_upside_down (K : PySem.W.Frag) : Sp := fun vs H Q _ => ∃ (p : Addr) (ls : List Ln3), vs = [.ref p] ∧ LsT K H p ls ∧ ls.length ≤ 100 ∧ ∀ (t : Addr) H', Same H H' → LsL K H' t (ls.map flip3) → Q (.ref t) H'
theorem ok_upside_down {P : Program} {w : World} {K : PySem.W.Frag} {mg : Str → Option Value} {base : Heap} (T : Top w K mg base) : FnOk P w K mg base CX0 1 T.f_upside_down T.fd_upside_down ["lines"] (sp_upside_down K) := by
  refine T.F_upside_down.ok sc_upside_down (fun vs H Q E h => ?_) (fun cdv A outer s H vs Q E hr h => ?_)
  · rcases h with ⟨p, ls, rfl, _⟩ <;> rfl
  · obtain ⟨p, ls, rfl, ⟨vs, sq, r3⟩, few, q⟩ := h
    refine ⟨_, (pss_one (ps_ret (pe_lc (own := [("a", 1), ("b", 2), ("m", 3)]) (g := gTup K 3 (gCons (gName 1) (gCons (gName 2) (gCons (gName 3) gNil)))) (tt := tYes) (by rfl) sc_upside_down.nd (pi_tup (pv 0)) (blkOk_by (own := [("a", 1), ("b", 2), ("m", 3)]) (N := N_upside_down) (sc := defScope s_upside_down) (by decide +kernel)) (fun _ _ _ _ _ => (pg_tup rfl (pgs_cons (pg_name (i := 1) sc_upside_down.nd rfl (Or.inl rfl)) (pgs_cons (pg_name (i := 2) sc_upside_down.nd rfl (Or.inl rfl)) (pgs_cons (pg_name (i := 3) sc_upside_down.nd rfl (Or.inl rfl)) pgs_nil))))) (fun _ _ _ _ _ => pts_nil) (fun _ _ _ _ _ => (pe_tup (pa_cons (pe_un un_neg (pv 1)) (pa_cons (pe_un un_neg (pv 2)) (pa_cons (pv 3) pa_nil)))))))), ?_⟩
    try rw [st_upside_down]

    (repeat (with_reducible first | refine r_v0 ?_ | refine r_ret ?_ | refine r_iTup ?_ | refine r_lc ?_))
    refine ⟨p, rfl, ⟨_, sq⟩, fun D nD => ?_⟩
    refine lc_ok_tup (xs := vs) (fun i G => Same H G ∧ ∃ ws : List V, G D = some (.lst ws) ∧ ws.length = i ∧ R3 G ws ((ls.take i).map flip3)) ⟨same_upd nD, [], upd_same, rfl, trivial⟩ (fun i G _ z => Same.seqT z.1 sq) ?_ ?_
    · rintro i x G hx ⟨sG, ws, eG, lG, rG⟩
      obtain ⟨pl, l, rfl, hl, el⟩ := (r3.same sG).get hx
      have zl : SqT K G pl [.int l.1, .int l.2.1, .int l.2.2] := .inl (.inl el)
      have hi : i < ls.length := (List.getElem?_eq_some_iff.mp hl).1
      (repeat (first | (with_reducible first | refine r_gcons ?_ | refine r_gnil ?_) | ((with_reducible refine' r_gname ?zze ?_); (case zze => exact rfl)) | ((with_reducible refine' r_gtup ?zzs ?zzl ?_); (case zzs => assumption); (case zzl => exact rfl))))
      refine ⟨rfl, ?_⟩
      (repeat (first | (with_reducible first | refine r_un ?_ | refine r_U ?_ | refine r_cons ?_ | refine r_nil ?_ | refine r_tup ?_ | refine iteT ?_ | refine r_yes ?_) | ((with_reducible refine' r_var ?zze ?_); (case zze => exact rfl))))
      refine r_litT fun p2 G2 n2 s2 e2 => ?_
      refine acc_mk (s2 _ _ eG) (by omega) fun G3 e3 b3 => ?_
      have bt := but_tup (s2 _ _ eG) b3
      refine ⟨same_but (sG.trans s2) nD b3, _, e3, by rw [List.length_append, lG]; rfl, ?_⟩
      rw [List.take_add_one, hl, List.map_append]
      exact R3.app (t := flip3 l) (bt _ _ e2) ((rG.same s2).more bt)
    · rintro G ⟨sG, ws, eG, lG, rG⟩
      rw [r3.len, List.take_length] at rG
      skip
      exact q D G sG ⟨ws, .inl (.inl eG), rG⟩
/-! ### count_points -/

def sp_count_points (K : PySem.W.Frag) : Sp := fun vs H Q _ => ∃ (pa pb p : Addr) (lo hi : Int) (ab be : List Ln3), vs = [.ref pa, .ref pb, .ref p] ∧ LsT K H pa ab ∧ LsT K H pb be ∧ Gd ab ∧ Gd be ∧ SqT K H p [.int lo, .int hi] ∧ lo ≤ hi ∧ Sz 390 lo ∧ Sz 390 hi ∧ be.length ≤ 100 ∧ ∀ H', Same H H' → Q (.int (sumZ (room ab be) lo hi)) H'
theorem ok_count_points {P : Program} {w : World} {K : PySem.W.Frag} {mg : Str → Option Value} {base : Heap} (T : Top w K mg base) : FnOk P w K mg base CX0 8 T.f_count_points T.fd_count_points ["above", "beneath", "stretch"] (sp_count_points K) := by
  refine T.F_count_points.ok sc_count_points (fun vs H Q E h => ?_) (fun cdv A outer s H vs Q E hr h => ?_)
  · rcases h with ⟨pa, pb, p, lo, hi, ab, be, rfl, _⟩ <;> rfl
  · obtain ⟨pa, pb, p, lo, hi, ab, be, rfl, La, Lb, ga, gb, zp, lh, slo, shi, few, q⟩ := h
    refine ⟨_, (pss_cons (ps_asg (pv 2) (pg_tup rfl (pgs_cons (pg_name (i := 3) sc_count_points.nd rfl (Or.inl rfl)) (pgs_cons (pg_name (i := 4) sc_count_points.nd rfl (Or.inl rfl)) pgs_nil))))
  (pss_one (ps_ret (pe_op op_sub (pe_op op_add (pe_op op_add (pe_call (ok_sum_least T) (hr.mono (by decide)) (by rfl) T.g_sum_least T.F_sum_least.kp T.b_sum_least .nil pass0 (pa_cons (pv 0) (pa_cons (pv 2) pa_nil))) (pe_call (ok_sum_least T) (hr.mono (by decide)) (by rfl) T.g_sum_least T.F_sum_least.kp T.b_sum_least .nil pass0 (pa_cons (pe_call (ok_upside_down T) (hr.mono (by decide)) (by rfl) T.g_upside_down T.F_upside_down.kp T.b_upside_down .nil pass0 (pa_cons (pv 1) pa_nil)) (pa_cons (pv 2) pa_nil)))) (pv 4)) (pv 3))))), ?_⟩
    try rw [st_count_points]

    (repeat (first | (with_reducible first | refine r_v0 ?_ | refine r_v2 ?_ | refine r_gn3 ?_ | refine r_gn4 ?_ | refine r_seq ?_ | refine r_asg ?_ | refine r_op ?_ | refine r_ret ?_ | refine r_cons ?_ | refine r_nil ?_ | refine r_call ?_ | refine r_gcons ?_ | refine r_gnil ?_) | ((with_reducible refine' r_gtup ?zzs ?zzl ?_); (case zzs => assumption); (case zzl => exact rfl))))
    refine ⟨pa, p, lo, hi, ab, rfl, .inr La, ga, zp, lh, slo, shi, fun H1 s1 => ?_⟩
    (repeat (with_reducible first | refine r_v1 ?_ | refine r_cons ?_ | refine r_nil ?_ | refine r_call ?_))
    refine ⟨pb, be, rfl, Lb.same s1, few, fun pu H2 s2 Lu => ?_⟩
    have gu : Gd (be.map flip3) := fun l hl => by
      obtain ⟨o, ho, rfl⟩ := List.mem_map.mp hl
      obtain ⟨a1, a2, a3, a4⟩ := gb o ho
      exact ⟨a1, a2.neg, a3.neg, a4⟩
    (repeat (with_reducible first | refine r_v2 ?_ | refine r_cons ?_ | refine r_nil ?_))
    refine ⟨pu, p, lo, hi, be.map flip3, rfl, .inl Lu, gu, Same.seqT (s1.trans s2) zp, lh, slo, shi, fun H3 s3 => ?_⟩
    (repeat (with_reducible first | refine r_v3 ?_ | refine r_v4 ?_ | refine r_I0 ?_))
    have e : sumZ (minP ab) lo hi + sumZ (minP (be.map flip3)) lo hi + hi - lo = sumZ (room ab be) lo hi := by
      have : sumZ (room ab be) lo hi = sumZ (minP ab) lo hi + sumZ (minP (be.map flip3)) lo hi + (hi - lo) := by
        rw [← sumZ_one lh, ← sumZ_add, ← sumZ_add]
        rfl
      omega
    rw [e]
    exact q H3 ((s1.trans s2).trans s3)
/-! ### points_between -/

def sp_points_between (K : PySem.W.Frag) : Sp := fun vs H Q _ => ∃ (pa pb : Addr) (low high : Int) (ab be : List Ln3), vs = [.ref pa, .ref pb, .int low, .int high] ∧ LsT K H pa ab ∧ LsT K H pb be ∧ Gd ab ∧ Gd be ∧ 0 < ab.length ∧ 0 < be.length ∧ be.length ≤ 100 ∧ low ≤ high ∧ Sz 380 low ∧ Sz 380 high ∧ ∀ H', Same H H' → Q (.int (sumZ (fun x => if room ab be x > 0 then room ab be x else 0) low high)) H'
theorem ok_points_between {P : Program} {w : World} {K : PySem.W.Frag} {mg : Str → Option Value} {base : Heap} (T : Top w K mg base) : FnOk P w K mg base CX0 9 T.f_points_between T.fd_points_between ["above", "beneath", "low", "high"] (sp_points_between K) := by
  refine T.F_points_between.ok sc_points_between (fun vs H Q E h => ?_) (fun cdv A outer s H vs Q E hr h => ?_)
  · rcases h with ⟨pa, pb, low, high, ab, be, rfl, _⟩ <;> rfl
  · obtain ⟨pa, pb, low, high, ab, be, rfl, La, Lb, ga, gb, na, nb, few, lh, slo, shi, q⟩ := h
    refine ⟨_, (pss_cons (ps_expr (pe_call (ok_check_between T) (hr.mono (by decide)) (by rfl) T.g_check_between T.F_check_between.kp T.b_check_between .nil pass0 (pa_cons (pv 0) (pa_cons (pv 1) (pa_cons (pv 2) (pa_cons (pv 3) pa_nil))))))
  (pss_one (ps_ret (pe_call (ok_count_points T) (hr.mono (by decide)) (by rfl) T.g_count_points T.F_count_points.kp T.b_count_points .nil pass0 (pa_cons (pv 0) (pa_cons (pv 1) (pa_cons (pe_call (ok_stretch_between T) (hr.mono (by decide)) (by rfl) T.g_stretch_between T.F_stretch_between.kp T.b_stretch_between .nil pass0 (pa_cons (pv 0) (pa_cons (pv 1) (pa_cons (pv 2) (pa_cons (pv 3) pa_nil))))) pa_nil))))))), ?_⟩
    try rw [st_points_between]

    (repeat (with_reducible first | refine r_v0 ?_ | refine r_v1 ?_ | refine r_v2 ?_ | refine r_v3 ?_ | refine r_seq ?_ | refine r_drop ?_ | refine r_cons ?_ | refine r_nil ?_ | refine r_call ?_))
    refine ⟨pa, pb, low, high, ab, be, rfl, La, Lb, ga, gb, lh, ?_⟩
    (repeat (with_reducible first | refine r_v0 ?_ | refine r_v1 ?_ | refine r_v2 ?_ | refine r_v3 ?_ | refine r_ret ?_ | refine r_cons ?_ | refine r_nil ?_ | refine r_call ?_))
    refine ⟨pa, pb, low, high, ab, be, rfl, La, Lb, ga, gb, lh, fun t lo hi H1 s1 zt pin => ?_⟩
    have ends : ∀ z : Int, low ≤ z → z ≤ high → Sz 390 z := fun z z0 z1 => by
      unfold Sz at *
      have : (2 : Nat) ^ 380 ≤ 2 ^ 390 := Nat.pow_le_pow_right (by decide) (by decide)
      omega
    obtain ⟨c1, c2, c3, c4⟩ := pin
    (repeat (with_reducible refine r_nil ?_))
    refine ⟨pa, pb, t, lo, hi, ab, be, rfl, La.same s1, Lb.same s1, ga, gb, zt, c2, ends lo c1 (by omega), ends hi (by omega) c3, few, fun H2 s2 => ?_⟩
    rw [room_sum ga gb na nb c1 c2 c3 c4]
    exact q H2 (s1.trans s2)
/-! ### rests_beneath -/

def sp_rests_beneath (K : PySem.W.Frag) : Sp := fun vs H Q _ => ∃ (p : Addr) (a b m n bound : Int), vs = [.ref p, .int n, .int bound] ∧ Ln K H p a b m ∧ Sz 900 b ∧ Sz 900 m ∧ 0 ≤ n ∧ Sz 1000 n ∧ ∀ H', Same H H' → Q (.int (cntB a b m bound n.toNat)) H'
theorem ok_rests_beneath {P : Program} {w : World} {K : PySem.W.Frag} {mg : Str → Option Value} {base : Heap} (T : Top w K mg base) : FnOk P w K mg base CX0 6 T.f_rests_beneath T.fd_rests_beneath ["line", "n", "bound"] (sp_rests_beneath K) := by
  refine T.F_rests_beneath.ok sc_rests_beneath (fun vs H Q E h => ?_) (fun cdv A outer s H vs Q E hr h => ?_)
  · rcases h with ⟨p, a, b, m, n, bound, rfl, _⟩ <;> rfl
  · obtain ⟨p, a, b, m, n, bound, rfl, L, sb, sm, hn, sn, q⟩ := h
    refine ⟨_, (pss_cons (ps_expr (pe_call (ok_check_line T) (hr.mono (by decide)) (by rfl) T.g_check_line T.F_check_line.kp T.b_check_line .nil pass0 (pa_cons (pv 0) pa_nil)))
  (pss_cons (ps_asg (pv 0) (pg_tup rfl (pgs_cons (pg_name (i := 3) sc_rests_beneath.nd rfl (Or.inl rfl)) (pgs_cons (pg_name (i := 4) sc_rests_beneath.nd rfl (Or.inl rfl)) (pgs_cons (pg_name (i := 5) sc_rests_beneath.nd rfl (Or.inl rfl)) pgs_nil)))))
  (pss_cons (ps_set (i := 6) sc_rests_beneath.nd rfl (Or.inl rfl) (pe_callB (call_max2 rfl) (by rfl) T.n_max (by decide +kernel) (pa_cons pe_int (pa_cons (pe_callB (call_min2 rfl) (by rfl) T.n_min (by decide +kernel) (pa_cons (pv 2) (pa_cons (pv 5) pa_nil))) pa_nil))))
  (pss_one (ps_ret (pe_op op_sub (pe_call (ok_sum_parts T) (hr.mono (by decide)) (by rfl) T.g_sum_parts T.F_sum_parts.kp T.b_sum_parts .nil pass0 (pa_cons (pv 0) (pa_cons (pv 1) pa_nil))) (pe_call (ok_sum_parts T) (hr.mono (by decide)) (by rfl) T.g_sum_parts T.F_sum_parts.kp T.b_sum_parts .nil pass0 (pa_cons (pe_tup (pa_cons (pv 3) (pa_cons (pe_op op_sub (pv 4) (pv 6)) (pa_cons (pv 5) pa_nil)))) (pa_cons (pv 1) pa_nil))))))))), ?_⟩
    try rw [st_rests_beneath]

    have hz := L.at_
    (repeat (with_reducible first | refine r_v0 ?_ | refine r_seq ?_ | refine r_drop ?_ | refine r_cons ?_ | refine r_nil ?_ | refine r_call ?_))
    refine ⟨p, a, b, m, rfl, hz, L.pos, ?_⟩
    (repeat (first | (with_reducible first | refine r_v0 ?_ | refine r_v1 ?_ | refine r_v2 ?_ | refine r_v5 ?_ | refine r_gn3 ?_ | refine r_gn4 ?_ | refine r_gn5 ?_ | refine r_gn6 ?_ | refine r_seq ?_ | refine r_asg ?_ | refine r_C ?_ | refine r_op ?_ | refine r_ret ?_ | refine r_cons ?_ | refine r_nil ?_ | refine r_call ?_ | refine r_CB ?_ | refine r_gcons ?_ | refine r_gnil ?_ | refine r_max2 ?_) | ((with_reducible refine' r_gtup ?zzs ?zzl ?_); (case zzs => assumption); (case zzl => exact rfl))))
    refine ⟨p, a, b, m, n, rfl, L, hn, sn, fun H1 s1 => ?_⟩
    generalize hw : (if (if m < bound then m else bound) > 0 then (if m < bound then m else bound) else 0) = w
    have sw : Sz 900 w := by
      have hm := L.pos
      have h0 : 0 ≤ w ∧ w ≤ m := by
        rw [← hw]
        repeat' split
        all_goals omega
      exact sm.le h0.1 h0.2
    (repeat (with_reducible first | refine r_v3 ?_ | refine r_v4 ?_ | refine r_v5 ?_ | refine r_v6 ?_ | refine r_op ?_ | refine r_I0 ?_ | refine r_cons ?_ | refine r_nil ?_ | refine r_call ?_ | refine r_tup ?_))
    refine r_litT fun p2 H2 n2 s2 e2 => ?_
    (repeat (with_reducible first | refine r_v1 ?_ | refine r_cons ?_ | refine r_nil ?_))
    refine ⟨p2, _, _, _, _, rfl, ln_mk e2 L.pos L.sa (sb.sub sw) L.sm, hn, sn, fun H3 s3 => ?_⟩
    (repeat (with_reducible refine r_I0 ?_))
    rw [sum_beneath a b m bound L.pos n.toNat w hw.symm]
    exact q _ ((s1.trans s2).trans s3)
/-! ### first_multiple -/

def sp_first_multiple (K : PySem.W.Frag) : Sp := fun vs H Q _ => ∃ (a m low high : Int), vs = [.int a, .int m, .int low, .int high] ∧ 0 ≤ a ∧ a < m ∧ Sz 1000 m ∧ 1 ≤ low ∧ low ≤ high ∧ high < m ∧ ∀ r H', Same H H' → Fst a 0 m low high r → Q (oV r) H'
theorem ok_first_multiple {P : Program} {w : World} {K : PySem.W.Frag} {mg : Str → Option Value} {base : Heap} (T : Top w K mg base) : FnOk P w K mg base CX0 2 T.f_first_multiple T.fd_first_multiple ["a", "m", "low", "high"] (sp_first_multiple K) := by
  refine T.F_first_multiple.ok sc_first_multiple (fun vs H Q E h => ?_) (fun cdv A outer s H vs Q E hr h => ?_)
  · rcases h with ⟨a, m, low, high, rfl, _⟩ <;> rfl
  · obtain ⟨a, m, low, high, rfl, a0, ham, sm, h1, h2, hm, q⟩ := h
    refine ⟨_, (pss_cons (ps_set (i := 4) sc_first_multiple.nd rfl (Or.inl rfl) (pe_lst pa_nil))
  (pss_cons (ps_while PassesOwn.never (PW.pt (pw_and (pt_cmpR op_ne (pv 0) pe_int (nomark _)) (pw_and1 (pt_cmpR op_gt (pe_op op_mulG (pe_call (ok_rounded_up T) (hr.mono (by decide)) (by rfl) T.g_rounded_up T.F_rounded_up.kp T.b_rounded_up .nil pass0 (pa_cons (pv 2) (pa_cons (pv 0) pa_nil))) (pv 0)) (pv 3) (nomark _)))))
  (pss_cons (ps_expr (pe_bm PySem.F.plainAttrs_list PySem.F.slot_list_append PySem.F.type_list_append mt_append (pv 4) (pa_cons (pe_tup (pa_cons (pv 0) (pa_cons (pv 1) (pa_cons (pv 2) pa_nil)))) pa_nil)))
  (pss_one (ps_asg (pe_tup (pa_cons (pe_op op_mod (pv 1) (pv 0)) (pa_cons (pv 0) (pa_cons (pe_op op_mod (pe_un un_neg (pv 3)) (pv 0)) (pa_cons (pe_op op_mod (pe_un un_neg (pv 2)) (pv 0)) pa_nil))))) (pg_tup rfl (pgs_cons (pg_name (i := 0) sc_first_multiple.nd rfl (Or.inl rfl)) (pgs_cons (pg_name (i := 1) sc_first_multiple.nd rfl (Or.inl rfl)) (pgs_cons (pg_name (i := 2) sc_first_multiple.nd rfl (Or.inl rfl)) (pgs_cons (pg_name (i := 3) sc_first_multiple.nd rfl (Or.inl rfl)) pgs_nil)))))))))
  (pss_cons (ps_if (pt_cmpR op_eq (pv 0) pe_int (nomark _)) (pss_one (ps_ret pe_non)) pss_nil)
  (pss_cons (ps_set (i := 5) sc_first_multiple.nd rfl (Or.inl rfl) (pe_call (ok_rounded_up T) (hr.mono (by decide)) (by rfl) T.g_rounded_up T.F_rounded_up.kp T.b_rounded_up .nil pass0 (pa_cons (pv 2) (pa_cons (pv 0) pa_nil))))
  (pss_cons (ps_for PassesOwn.never rfl (pi_reversed (by rfl) T.n_reversed (pa_cons (pv 4) pa_nil)) (pg_tup rfl (pgs_cons (pg_name (i := 6) sc_first_multiple.nd rfl (Or.inl rfl)) (pgs_cons (pg_name (i := 7) sc_first_multiple.nd rfl (Or.inl rfl)) (pgs_cons (pg_name (i := 8) sc_first_multiple.nd rfl (Or.inl rfl)) pgs_nil))))
  (pss_one (ps_set (i := 5) sc_first_multiple.nd rfl (Or.inl rfl) (pe_call (ok_rounded_up T) (hr.mono (by decide)) (by rfl) T.g_rounded_up T.F_rounded_up.kp T.b_rounded_up .nil pass0 (pa_cons (pe_op op_add (pe_op op_mulG (pv 7) (pv 5)) (pv 8)) (pa_cons (pv 6) pa_nil))))))
  (pss_one (ps_ret (pv 5)))))))), ?_⟩
    try rw [st_first_multiple]

    obtain ⟨all, r, hall⟩ := FM.ex _ (Nat.le_refl a.toNat) a0 ham sm h1 h2 hm
    have few : all.length ≤ 3000 := by
      have sa : Sz 1000 a := sm.le a0 (by omega)
      have := sa.mul sm
      have h0 : 0 ≤ a * m := Int.mul_nonneg a0 (by omega)
      have := hall.few 2000 (by unfold Sz at this; omega)
      omega
    (repeat (with_reducible first | refine r_seq ?_ | refine r_asg ?_ | refine r_nil ?_ | refine r_lst ?_))
    refine r_lit fun ps H0 np s0 e0 => ?_
    (repeat (with_reducible first | refine r_gn4 ?_ | refine r_seq ?_))
    refine r_while (fun j σ H' => ∃ (a' m' low' high' : Int) (vs : List V) (ts l : List (Int × Int × Int)), σ = [some (.int a'), some (.int m'), some (.int low'), some (.int high'), some (.ref ps), none, none, none, none] ∧ Same H H' ∧ H' ps = some (.lst vs) ∧ R3 H' vs ts ∧ FM a' m' low' high' l r ∧ ts ++ l = all ∧ j = l.length) all.length
      ⟨a, m, low, high, [], [], all, rfl, s0, e0, trivial, hall, rfl, rfl⟩ ?_
    rintro j σ H1 ⟨a', m', low', high', vs, ts, l, rfl, s1, e1, R1, hF, et, rfl⟩
    have lvs : vs.length < 10000 := by
      have h3 := R1.len
      have h4 : ts.length + l.length ≤ 3000 := by
        rw [← List.length_append, et]
        exact few
      omega
    cases hF with
    | none sm h1 h2 hm =>
      (repeat (with_reducible first | refine r_v0 ?_ | refine r_C ?_ | refine r_op ?_ | refine r_test ?_ | refine r_bl ?_ | refine r_and ?_ | refine r_neI ?_))
      refine r_iteN (fun h => absurd rfl h) (fun _ => ?_)
      (repeat (with_reducible first | refine r_v0 ?_ | refine r_seq ?_ | refine r_C ?_ | refine r_op ?_ | refine r_if ?_ | refine r_test ?_ | refine r_bl ?_ | refine r_eqI ?_ | refine iteF ?_))
      refine r_ite (fun _ => ?_) (fun h => absurd rfl h)
      (repeat (with_reducible first | refine r_C ?_ | refine r_ret ?_))
      exact q none _ s1 hall.sound
    | here sm ha ham h1 h2 hm hc =>
      have lg := lg_ok ha (sm.le (i := a') (by omega) (by omega))
      have sa : Sz 1000 a' := sm.le (by omega) (by omega)
      have sl : Sz 1000 low' := sm.le (by omega) (by omega)
      have scv : Sz 1002 (ceilD low' a') := by
        obtain ⟨c1, c2⟩ := ceilD_le (x := low') ha
        unfold ceilD
        exact ((sl.neg.div ha).neg).mono (by decide)
      (repeat (with_reducible first | refine r_v0 ?_ | refine r_C ?_ | refine r_op ?_ | refine r_test ?_ | refine r_bl ?_ | refine r_and ?_ | refine r_neI ?_))
      refine r_iteN (fun _ => ?_) (fun h => absurd h (by omega))
      (repeat (with_reducible first | refine r_v0 ?_ | refine r_v2 ?_ | refine r_op ?_ | refine r_test ?_ | refine r_cons ?_ | refine r_nil ?_ | refine r_call ?_))
      refine ⟨_, _, rfl, ha, lg, ?_⟩
      (repeat (first | (with_reducible first | refine r_v0 ?_ | refine r_v3 ?_ | refine r_I0 ?_ | refine r_bl ?_) | ((with_reducible refine r_I ?zzc ?_); (case zzc => first | with_reducible assumption | ((with_reducible apply mul_okA); (repeat' (first | with_reducible assumption | with_reducible apply Sz.mul | with_reducible apply Sz.addM | with_reducible apply Sz.subM | with_reducible apply Sz.neg | exact Sz.lit | decide)); done) | (show (0 : Int) < _; first | with_reducible assumption | decide | omega) | exact mul_okL | exact mul_okR | exact mul_okM | (exact div_ok (by with_reducible assumption) (by with_reducible assumption)) | (exact ⟨by with_reducible assumption, by with_reducible assumption⟩) | (exact ⟨by decide, by decide, by decide⟩) | (exact ⟨by decide, by decide⟩)))))
      refine r_ite (fun h => absurd h (by omega)) (fun _ => ?_)
      (repeat (with_reducible first | refine r_v0 ?_ | refine r_seq ?_ | refine r_C ?_ | refine r_op ?_ | refine r_if ?_ | refine r_test ?_ | refine r_bl ?_ | refine r_eqI ?_))
      refine r_ite (fun h => absurd h (by omega)) (fun _ => ?_)
      (repeat (with_reducible first | refine r_v0 ?_ | refine r_v2 ?_ | refine r_seq ?_ | refine r_next ?_ | refine r_asg ?_ | refine r_cons ?_ | refine r_nil ?_ | refine r_call ?_))
      refine ⟨_, _, rfl, ha, lg, ?_⟩
      (repeat (with_reducible first | refine r_v4 ?_ | refine r_gn5 ?_ | refine r_seq ?_ | refine r_cons ?_ | refine r_nil ?_ | refine r_for ?_ | refine r_rev ?_))
      refine ⟨ps, vs, rfl, .inl (.inl e1), ?_⟩
      rw [List.append_nil] at et
      subst et
      have len := R1.len
      refine loop_rev (fun i σ H' => ∃ (v6 v7 v8 : Option V), σ = [some (.int a'), some (.int m'), some (.int low'), some (.int high'), some (.ref ps), some (.int ((ts.drop (ts.length - i)).foldr backF (ceilD low' a'))), v6, v7, v8] ∧ Same H H' ∧ H' ps = some (.lst vs) ∧ R3 H' vs ts) ?_ ?_ ?_ ?_
      · refine ⟨none, none, none, ?_, s1, e1, R1⟩
        rw [Nat.sub_zero, List.drop_length]
        rfl
      · rintro i σ H2 hi ⟨v6, v7, v8, rfl, s2, e2, R2⟩
        exact .inl (.inl e2)
      · rintro i x σ H2 hi hx ⟨v6, v7, v8, rfl, s2, e2, R2⟩
        obtain ⟨pt, t, rfl, ht, het⟩ := R2.get hx
        rw [len] at ht hi
        have zt : SqT K H2 pt [.int t.1, .int t.2.1, .int t.2.2] := .inl (.inl het)
        obtain ⟨t0, t1, t2, t3⟩ := hall.tsz t (List.mem_of_getElem? ht)
        obtain ⟨M, sM, p0, p1⟩ := hall.drop rfl (ts.length - i)
        have hb := back_drop (p := ceilD low' a') ht
        rw [show ts.length - 1 - i + 1 = ts.length - i by omega] at hb
        generalize (ts.drop (ts.length - i)).foldr backF (ceilD low' a') = pl at *
        have spl : Sz 1000 pl := sM.le p0 (by omega)
        (repeat (first | (with_reducible first | refine r_v5 ?_ | refine r_v6 ?_ | refine r_v7 ?_ | refine r_v8 ?_ | refine r_gn6 ?_ | refine r_gn7 ?_ | refine r_gn8 ?_ | refine r_asg ?_ | refine r_op ?_ | refine r_I0 ?_ | refine r_cons ?_ | refine r_nil ?_ | refine r_call ?_ | refine r_gcons ?_ | refine r_gnil ?_) | ((with_reducible refine' r_gtup ?zzs ?zzl ?_); (case zzs => assumption); (case zzl => exact rfl)) | ((with_reducible refine r_I ?zzc ?_); (case zzc => first | with_reducible assumption | ((with_reducible apply mul_okA); (repeat' (first | with_reducible assumption | with_reducible apply Sz.mul | with_reducible apply Sz.addM | with_reducible apply Sz.subM | with_reducible apply Sz.neg | exact Sz.lit | decide)); done) | (show (0 : Int) < _; first | with_reducible assumption | decide | omega) | exact mul_okL | exact mul_okR | exact mul_okM | (exact div_ok (by with_reducible assumption) (by with_reducible assumption)) | (exact ⟨by with_reducible assumption, by with_reducible assumption⟩) | (exact ⟨by decide, by decide, by decide⟩) | (exact ⟨by decide, by decide⟩)))))
        refine ⟨_, _, rfl, t0, lg_ok t0 t1, ?_⟩
        (repeat (with_reducible refine r_gn5 ?_))
        refine ⟨some (.int t.1), some (.int t.2.1), some (.int t.2.2), ?_, s2, e2, R2⟩
        rw [show ts.length - (i + 1) = ts.length - 1 - i by omega, hb]
        rfl
      · rintro σ H2 ⟨v6, v7, v8, rfl, s2, e2, R2⟩
        rw [len, Nat.sub_self, List.drop_zero]
        (repeat (with_reducible first | refine r_v5 ?_ | refine r_ret ?_))
        exact q (some _) _ s2 hall.sound
    | @step _ _ _ _ l _ sm ha ham h1 h2 hm hc hF =>
      have lg := lg_ok ha (sm.le (i := a') (by omega) (by omega))
      have sa : Sz 1000 a' := sm.le (by omega) (by omega)
      have sl : Sz 1000 low' := sm.le (by omega) (by omega)
      have scv : Sz 1002 (ceilD low' a') := by
        unfold ceilD
        exact ((sl.neg.div ha).neg).mono (by decide)
      (repeat (with_reducible first | refine r_v0 ?_ | refine r_C ?_ | refine r_op ?_ | refine r_test ?_ | refine r_bl ?_ | refine r_and ?_ | refine r_neI ?_))
      refine r_iteN (fun _ => ?_) (fun h => absurd h (by omega))
      (repeat (with_reducible first | refine r_v0 ?_ | refine r_v2 ?_ | refine r_op ?_ | refine r_test ?_ | refine r_cons ?_ | refine r_nil ?_ | refine r_call ?_))
      refine ⟨_, _, rfl, ha, lg, ?_⟩
      (repeat (first | (with_reducible first | refine r_v0 ?_ | refine r_v3 ?_ | refine r_I0 ?_ | refine r_bl ?_) | ((with_reducible refine r_I ?zzc ?_); (case zzc => first | with_reducible assumption | ((with_reducible apply mul_okA); (repeat' (first | with_reducible assumption | with_reducible apply Sz.mul | with_reducible apply Sz.addM | with_reducible apply Sz.subM | with_reducible apply Sz.neg | exact Sz.lit | decide)); done) | (show (0 : Int) < _; first | with_reducible assumption | decide | omega) | exact mul_okL | exact mul_okR | exact mul_okM | (exact div_ok (by with_reducible assumption) (by with_reducible assumption)) | (exact ⟨by with_reducible assumption, by with_reducible assumption⟩) | (exact ⟨by decide, by decide, by decide⟩) | (exact ⟨by decide, by decide⟩)))))
      refine r_ite (fun _ => ?_) (fun h => absurd hc h)
      refine while_ok ?_
      (repeat (with_reducible first | refine r_v4 ?_ | refine r_seq ?_ | refine r_drop ?_ | refine r_bm ?_))
      refine ⟨ty_list e1, ?_⟩
      (repeat (with_reducible first | refine r_v0 ?_ | refine r_v1 ?_ | refine r_v2 ?_ | refine r_cons ?_ | refine r_nil ?_ | refine r_tup ?_))
      refine r_litT fun p6 H6 n6 s6 e6 => ?_
      (repeat (with_reducible refine r_nil ?_))
      refine r_appW (s6 _ _ e1) lvs fun H7 e7 b7 => ?_
      (repeat (first | (with_reducible first | refine r_v0 ?_ | refine r_v1 ?_ | refine r_v2 ?_ | refine r_v3 ?_ | refine r_asg ?_ | refine r_op ?_ | refine r_un ?_ | refine r_U ?_ | refine r_cons ?_ | refine r_nil ?_ | refine r_tup ?_) | ((with_reducible refine r_I ?zzc ?_); (case zzc => first | with_reducible assumption | ((with_reducible apply mul_okA); (repeat' (first | with_reducible assumption | with_reducible apply Sz.mul | with_reducible apply Sz.addM | with_reducible apply Sz.subM | with_reducible apply Sz.neg | exact Sz.lit | decide)); done) | (show (0 : Int) < _; first | with_reducible assumption | decide | omega) | exact mul_okL | exact mul_okR | exact mul_okM | (exact div_ok (by with_reducible assumption) (by with_reducible assumption)) | (exact ⟨by with_reducible assumption, by with_reducible assumption⟩) | (exact ⟨by decide, by decide, by decide⟩) | (exact ⟨by decide, by decide⟩)))))
      refine r_litT fun p8 H8 n8 s8 e8 => ?_
      have z8 : SqT K H8 p8 [.int (m' % a'), .int a', .int (-high' % a'), .int (-low' % a')] := .inl (.inl e8)
      (repeat (first | (with_reducible first | refine r_gn0 ?_ | refine r_gn1 ?_ | refine r_gn2 ?_ | refine r_gn3 ?_ | refine r_gcons ?_ | refine r_gnil ?_) | ((with_reducible refine' r_gtup ?zzs ?zzl ?_); (case zzs => assumption); (case zzl => exact rfl))))
      have bt := but_tup (s6 _ _ e1) b7
      have R6 : R3 H6 vs ts := R1.more fun p xs e => s6 _ _ e
      refine ⟨l.length, Nat.lt_succ_self _, _, _, _, _, _, ts ++ [(a', m', low')], l, rfl, (same_but (s1.trans s6) np b7).trans s8, s8 _ _ e7, (R3.app (bt _ _ e6) (R6.more bt)).more fun p xs e => s8 _ _ e, hF, ?_, rfl⟩
      rw [List.append_assoc]
      exact et
/-! ### first_within -/

def sp_first_within (K : PySem.W.Frag) : Sp := fun vs H Q _ => ∃ (p : Addr) (a b m low high : Int), vs = [.ref p, .int low, .int high] ∧ SqT K H p [.int a, .int b, .int m] ∧ 0 < m ∧ Sz 1000 m ∧ 0 ≤ low ∧ low ≤ high ∧ high < m ∧ ∀ r H', Same H H' → Fst a b m low high r → Q (oV r) H'
theorem ok_first_within {P : Program} {w : World} {K : PySem.W.Frag} {mg : Str → Option Value} {base : Heap} (T : Top w K mg base) : FnOk P w K mg base CX0 4 T.f_first_within T.fd_first_within ["line", "low", "high"] (sp_first_within K) := by
  refine T.F_first_within.ok sc_first_within (fun vs H Q E h => ?_) (fun cdv A outer s H vs Q E hr h => ?_)
  · rcases h with ⟨p, a, b, m, low, high, rfl, _⟩ <;> rfl
  · obtain ⟨p, a, b, m, low, high, rfl, hz, m0, sm, l0, lh, hm, q⟩ := h
    refine ⟨_, (pss_cons (ps_expr (pe_call (ok_check_line T) (hr.mono (by decide)) (by rfl) T.g_check_line T.F_check_line.kp T.b_check_line .nil pass0 (pa_cons (pv 0) pa_nil)))
  (pss_cons (ps_asg (pv 0) (pg_tup rfl (pgs_cons (pg_name (i := 3) sc_first_within.nd rfl (Or.inl rfl)) (pgs_cons (pg_name (i := 4) sc_first_within.nd rfl (Or.inl rfl)) (pgs_cons (pg_name (i := 5) sc_first_within.nd rfl (Or.inl rfl)) pgs_nil)))))
  (pss_cons (ps_if (PW.pt (pw_or (pt_cmpR op_lt (pv 1) pe_int (nomark _)) (pw_or1 (pt_cmpR op_ge (pv 2) (pv 5) (nomark _))))) (pss_one ps_never) pss_nil)
  (pss_cons (ps_expr (pe_call (ok_check_stretch T) (hr.mono (by decide)) (by rfl) T.g_check_stretch T.F_check_stretch.kp T.b_check_stretch .nil pass0 (pa_cons (pv 1) (pa_cons (pv 2) pa_nil))))
  (pss_cons (ps_if (pt_chain op_le op_le (pv 1) (pe_call (ok_rest_at T) (hr.mono (by decide)) (by rfl) T.g_rest_at T.F_rest_at.kp T.b_rest_at .nil pass0 (pa_cons (pv 0) (pa_cons pe_int pa_nil))) (pv 2)) (pss_one (ps_ret pe_int)) pss_nil)
  (pss_one (ps_ret (pe_call (ok_first_multiple T) (hr.mono (by decide)) (by rfl) T.g_first_multiple T.F_first_multiple.kp T.b_first_multiple .nil pass0 (pa_cons (pe_op op_mod (pv 3) (pv 5)) (pa_cons (pv 5) (pa_cons (pe_op op_mod (pe_op op_sub (pv 1) (pv 4)) (pv 5)) (pa_cons (pe_op op_mod (pe_op op_sub (pv 2) (pv 4)) (pv 5)) pa_nil)))))))))))), ?_⟩
    try rw [st_first_within]

    have lg := lg_ok m0 sm
    (repeat (with_reducible first | refine r_v0 ?_ | refine r_seq ?_ | refine r_drop ?_ | refine r_cons ?_ | refine r_nil ?_ | refine r_call ?_))
    refine ⟨p, a, b, m, rfl, hz, m0, ?_⟩
    (repeat (first | (with_reducible first | refine r_v0 ?_ | refine r_v1 ?_ | refine r_gn3 ?_ | refine r_gn4 ?_ | refine r_gn5 ?_ | refine r_seq ?_ | refine r_asg ?_ | refine r_C ?_ | refine r_op ?_ | refine r_I0 ?_ | refine r_if ?_ | refine r_test ?_ | refine r_bl ?_ | refine r_or ?_ | refine r_gcons ?_ | refine r_gnil ?_) | ((with_reducible refine' r_gtup ?zzs ?zzl ?_); (case zzs => assumption); (case zzl => exact rfl))))
    refine r_ite (fun h => absurd l0 (by omega)) (fun _ => ?_)
    (repeat (with_reducible first | refine r_v2 ?_ | refine r_v5 ?_ | refine r_op ?_ | refine r_I0 ?_ | refine r_test ?_ | refine r_bl ?_))
    refine r_ite (fun h => absurd hm (by omega)) (fun _ => ?_)
    (repeat (with_reducible first | refine r_v1 ?_ | refine r_v2 ?_ | refine r_seq ?_ | refine r_next ?_ | refine r_drop ?_ | refine r_cons ?_ | refine r_nil ?_ | refine r_call ?_))
    refine ⟨low, high, rfl, lh, ?_⟩
    (repeat (with_reducible first | refine r_v0 ?_ | refine r_v1 ?_ | refine r_seq ?_ | refine r_C ?_ | refine r_if ?_ | refine r_test ?_ | refine r_cons ?_ | refine r_nil ?_ | refine r_call ?_ | refine r_chain ?_))
    refine ⟨p, a, b, m, 0, rfl, hz, m0, mul_okR, ?_⟩
    rw [Int.mul_zero, Int.zero_add]
    have rest : ∀ (h : ¬ (low ≤ b % m ∧ b % m ≤ high)), sp_first_multiple K [V.int (a % m), V.int m, V.int ((low - b) % m), V.int ((high - b) % m)] H Q E0 := fun h => by
      obtain ⟨i1, i2, i3, _⟩ := inb_shift (a := a) (x := 0) m0 l0 lh hm h
      exact ⟨_, _, _, _, rfl, Int.emod_nonneg _ (by omega), Int.emod_lt_of_pos _ m0, sm, i1, i2, i3, fun r H1 s1 hr1 => q r H1 s1 (fst_shift m0 l0 lh hm h hr1)⟩
    (repeat (with_reducible first | refine r_I0 ?_ | refine r_bl ?_))
    refine r_ite (fun c1 => ?_) (fun c1 => ?_)
    · (repeat (with_reducible first | refine r_v2 ?_ | refine r_I0 ?_ | refine r_bl ?_))
      refine r_ite (fun c2 => ?_) (fun c2 => ?_)
      · (repeat (with_reducible first | refine r_C ?_ | refine r_ret ?_))
        exact q (some 0) _ (Same.refl _) (fst_zero ⟨c1, c2⟩)
      · (repeat (first | (with_reducible first | refine r_v1 ?_ | refine r_v2 ?_ | refine r_v3 ?_ | refine r_v4 ?_ | refine r_v5 ?_ | refine r_next ?_ | refine r_op ?_ | refine r_I0 ?_ | refine r_ret ?_ | refine r_cons ?_ | refine r_nil ?_ | refine r_call ?_) | ((with_reducible refine r_I ?zzc ?_); (case zzc => first | with_reducible assumption | ((with_reducible apply mul_okA); (repeat' (first | with_reducible assumption | with_reducible apply Sz.mul | with_reducible apply Sz.addM | with_reducible apply Sz.subM | with_reducible apply Sz.neg | exact Sz.lit | decide)); done) | (show (0 : Int) < _; first | with_reducible assumption | decide | omega) | exact mul_okL | exact mul_okR | exact mul_okM | (exact div_ok (by with_reducible assumption) (by with_reducible assumption)) | (exact ⟨by with_reducible assumption, by with_reducible assumption⟩) | (exact ⟨by decide, by decide, by decide⟩) | (exact ⟨by decide, by decide⟩)))))
        exact rest fun h => c2 h.2
    · (repeat (first | (with_reducible first | refine r_v1 ?_ | refine r_v2 ?_ | refine r_v3 ?_ | refine r_v4 ?_ | refine r_v5 ?_ | refine r_next ?_ | refine r_op ?_ | refine r_I0 ?_ | refine r_ret ?_ | refine r_bl ?_ | refine r_cons ?_ | refine r_nil ?_ | refine r_call ?_ | refine iteF ?_) | ((with_reducible refine r_I ?zzc ?_); (case zzc => first | with_reducible assumption | ((with_reducible apply mul_okA); (repeat' (first | with_reducible assumption | with_reducible apply Sz.mul | with_reducible apply Sz.addM | with_reducible apply Sz.subM | with_reducible apply Sz.neg | exact Sz.lit | decide)); done) | (show (0 : Int) < _; first | with_reducible assumption | decide | omega) | exact mul_okL | exact mul_okR | exact mul_okM | (exact div_ok (by with_reducible assumption) (by with_reducible assumption)) | (exact ⟨by with_reducible assumption, by with_reducible assumption⟩) | (exact ⟨by decide, by decide, by decide⟩) | (exact ⟨by decide, by decide⟩)))))
      exact rest fun h => c1 h.1
/-! ### in_order -/

def sp_in_order (K : PySem.W.Frag) (P : Addr) : Sp := fun vs H Q _ => ∃ (p : Addr) (a b m : Int) (n : Nat) (num : Int), vs = [.ref p, .int (n : Int), .int num] ∧ Ln K H p a b m ∧ Sz 900 b ∧ Sz 900 m ∧ Sz 900 (n : Int) ∧ 0 ≤ num ∧ num < n ∧ LamX.TabS H P lq_in_order ∧
  ∀ (t : Addr) (r x : Int) H', Ex H H' → LamX.TabS H' P lq_in_order → H' t = some (.tup [.int r, .int x]) → Ord a b m n num r x → Q (.ref t) H'
theorem ok_in_order {P : Program} {w : World} {K : PySem.W.Frag} {mg : Str → Option Value} {base : Heap} (T : Top w K mg base) : FnOk P w K mg base CX0 9 T.f_in_order T.fd_in_order ["line", "n", "number"] (sp_in_order K T.p_in_order_) := by
  refine fun_okC T.F_in_order T.k_in_order_ sc_in_order (fun vs H Q E h => ?_) (fun A outer s H vs Q E hr h => ?_)
  · rcases h with ⟨p, a, b, m, n, num, rfl, _⟩ <;> rfl
  · obtain ⟨p, a, b, m, n, num, rfl, L, sb, sm, sn, k0, k1, tab, q⟩ := h
    refine ⟨_, (pss_cons (ps_expr (pe_call (ok_check_line T) (hr.mono (by decide)) (by rfl) T.g_check_line T.F_check_line.kp T.b_check_line .nil pass0 (pa_cons (pv 0) pa_nil)))
  (pss_cons (ps_if (pt_not (pt_chain op_le op_lt pe_int (pv 2) (pv 1))) (pss_one ps_never) pss_nil)
  (pss_cons (ps_set (i := 3) sc_in_order.nd rfl (Or.inl rfl) (pe_ix ix_tup (pv 0) pe_int (fun _ _ => rfl)))
  (pss_cons (ps_set (i := 4) sc_in_order.nd rfl (Or.inl rfl) (pe_lam (a := "most") (q := lq_in_order) (k := 6) T.F_first_such T.b_first_such sc_first_such rfl (Or.inl rfl) (by decide) (by decide) (uses_first_such T) (by rfl) T.g_first_such T.t_in_order_ rfl (by rfl) (hr.mono (by decide)) (lamP_by (show lamPB (defScope s_in_order) _ _ = true by decide +kernel)) (show ¬ (("most" : Str) ∈ N_in_order) by decide +kernel) rfl (fun _ _ _ _ _ _ => rfl) pe_int (pe_op op_sub (pv 3) pe_int) (fun A outer s H f c hr => (pe_cmpR op_gt (pe_call (ok_rests_beneath T) (hr.mono (by decide)) (by rfl) T.g_rests_beneath T.F_rests_beneath.kp T.b_rests_beneath .nil pass0 (pa_cons (pv 0) (pa_cons (pv 1) (pa_cons (pe_op op_add (pv 7) pe_int) pa_nil)))) (pv 2) (nomark _)))))
  (pss_cons (ps_set (i := 5) sc_in_order.nd rfl (Or.inl rfl) (pe_op op_sub (pv 2) (pe_call (ok_rests_beneath T) (hr.mono (by decide)) (by rfl) T.g_rests_beneath T.F_rests_beneath.kp T.b_rests_beneath .nil pass0 (pa_cons (pv 0) (pa_cons (pv 1) (pa_cons (pv 4) pa_nil))))))
  (pss_cons (ps_set (i := 6) sc_in_order.nd rfl (Or.inl rfl) (pe_op op_fdivW (pv 3) (pe_call (ok_common_measure T) (hr.mono (by decide)) (by rfl) T.g_common_measure T.F_common_measure.kp T.b_common_measure .nil pass0 (pa_cons (pe_ix ix_tup (pv 0) pe_int (fun _ _ => rfl)) (pa_cons (pv 3) pa_nil)))))
  (pss_one (ps_ret (pe_tup (pa_cons (pv 4) (pa_cons (pe_op op_add (pe_call (ok_first_within T) (hr.mono (by decide)) (by rfl) T.g_first_within T.F_first_within.kp T.b_first_within .nil pass0 (pa_cons (pv 0) (pa_cons (pv 4) (pa_cons (pv 4) pa_nil)))) (pe_op op_mulG (pv 5) (pv 6))) pa_nil))))))))))), ?_⟩
    try rw [st_in_order]

    have z := L.at_
    have m0 := L.pos
    have sn1 : Sz 1000 (n : Int) := sn.mono (by decide)
    (repeat (with_reducible first | refine r_v0 ?_ | refine r_seq ?_ | refine r_drop ?_ | refine r_cons ?_ | refine r_nil ?_ | refine r_call ?_))
    refine ⟨p, a, b, m, rfl, z, m0, ?_⟩
    (repeat (with_reducible first | refine r_v2 ?_ | refine r_seq ?_ | refine r_C ?_ | refine r_I0 ?_ | refine r_if ?_ | refine r_test ?_ | refine r_bl ?_ | refine r_not ?_ | refine r_chain ?_))
    refine r_ite (fun _ => ?_) (fun h => absurd k0 h)
    (repeat (with_reducible first | refine r_v1 ?_ | refine r_I0 ?_ | refine r_bl ?_))
    refine r_iteN (fun h => absurd k1 h) (fun _ => ?_)
    (repeat (first | (with_reducible first | refine r_v0 ?_ | refine r_v3 ?_ | refine r_gn3 ?_ | refine r_seq ?_ | refine r_next ?_ | refine r_asg ?_ | refine r_C ?_ | refine r_op ?_ | refine r_I0 ?_ | refine r_lam ?_) | ((with_reducible refine' r_ixT ?zzs ?zze ?_); (case zzs => assumption); (case zze => exact rfl))))
    refine ⟨0, m - 1, rfl, rfl, tab, fun H3 ex3 tab3 => ?_⟩
    have L3 := Ex.ln ex3 L
    refine ⟨by omega, fun x => decide (num < cntB a b m (x + 1) n), fun x H' Q' x0 x1 s' hq => ?_, fun x y x0 xy y1 hp => ?_, fun r H4 s4 r0 r1 fl th => ?_⟩
    · simp only [List.cons_append, List.nil_append]
      (repeat (first | (with_reducible first | refine r_v0 ?_ | refine r_v1 ?_ | refine r_C ?_ | refine r_op ?_ | refine r_I0 ?_ | refine r_cons ?_ | refine r_nil ?_ | refine r_call ?_) | ((with_reducible refine' r_var ?zze ?_); (case zze => exact rfl))))
      refine ⟨p, a, b, m, (n : Int), x + 1, rfl, L3.same s', sb, sm, by omega, sn1, fun H5 s5 => ?_⟩
      rw [Int.toNat_natCast]
      (repeat (with_reducible first | refine r_v2 ?_ | refine r_I0 ?_))
      exact hq H5 s5
    · have h1 : num < cntB a b m (x + 1) n := of_decide_eq_true hp
      have h2 : cntB a b m (x + 1) n ≤ cntB a b m (y + 1) n := cntB_mono (fun r _ _ h => by omega) m0 n
      exact decide_eq_true (by omega)
    · have lo : cntB a b m r n ≤ num := by
        by_cases h : r = 0
        · rw [h, cntB_zero m0]
          exact k0
        · have := of_decide_eq_false (fl (r - 1) (by omega) (by omega))
          rw [show r - 1 + 1 = r by omega] at this
          omega
      have hi : num < cntB a b m (r + 1) n := by
        by_cases h : r < m - 1
        · exact of_decide_eq_true (th h)
        · rw [show r + 1 = m by omega, cntB_full m0]
          exact k1
      have L4 := L3.same s4
      have tab4 := TabS.same tab3 s4
      have ex4 : Ex H H4 := Ex.trans ex3 (Ex.of s4)
      obtain ⟨mn, rfl⟩ : ∃ k : Nat, m = (k : Int) := ⟨m.toNat, by omega⟩
      (repeat (with_reducible first | refine r_v0 ?_ | refine r_v1 ?_ | refine r_v2 ?_ | refine r_v4 ?_ | refine r_gn4 ?_ | refine r_seq ?_ | refine r_asg ?_ | refine r_op ?_ | refine r_cons ?_ | refine r_nil ?_ | refine r_call ?_))
      refine ⟨p, a, b, (mn : Int), (n : Int), r, rfl, L4, sb, sm, by omega, sn1, fun H5 s5 => ?_⟩
      rw [Int.toNat_natCast]
      have z5 := Same.seqT s5 L4.at_
      obtain ⟨s, hs⟩ : ∃ s : Nat, (mn : Int) / ((Int.gcd a mn : Nat) : Int) = (s : Int) := ⟨((mn : Int) / ((Int.gcd a mn : Nat) : Int)).toNat, by
        have := Int.ediv_nonneg (a := (mn : Int)) (b := ((Int.gcd a mn : Nat) : Int)) (by omega) (by omega)
        omega⟩
      obtain ⟨g0, em, _, _, per⟩ := round_count (a := a) (b := b) (m := mn) (w := 0) (by omega) (by omega) (by omega) rfl hs
      have s0 : 0 < s := by
        rcases Nat.eq_zero_or_pos s with h | h
        · rw [h, show ((0 : Nat) : Int) = 0 by rfl, Int.zero_mul] at em
          omega
        · exact h
      have sg : Sz 900 ((Int.gcd a mn : Nat) : Int) := by
        refine sm.le (by omega) ?_
        have h1 := Int.mul_le_mul_of_nonneg_right (show (1 : Int) ≤ s by omega) (show (0 : Int) ≤ ((Int.gcd a mn : Nat) : Int) by omega)
        generalize ((Int.gcd a mn : Nat) : Int) = g at *
        omega
      have cdg : CDivW (mn : Int) ((Int.gcd a mn : Nat) : Int) := ⟨g0, lg_ok g0 sg⟩
      (repeat (first | (with_reducible first | refine r_v0 ?_ | refine r_v3 ?_ | refine r_gn5 ?_ | refine r_seq ?_ | refine r_asg ?_ | refine r_C ?_ | refine r_op ?_ | refine r_I0 ?_ | refine r_cons ?_ | refine r_nil ?_ | refine r_call ?_) | ((with_reducible refine' r_ixT ?zzs ?zze ?_); (case zzs => assumption); (case zze => exact rfl))))
      refine ⟨a, mn, rfl, by omega, ?_⟩
      (repeat (first | (with_reducible first | refine r_v0 ?_ | refine r_v4 ?_ | refine r_gn6 ?_ | refine r_op ?_ | refine r_ret ?_ | refine r_cons ?_ | refine r_nil ?_ | refine r_call ?_ | refine r_tup ?_) | ((with_reducible refine r_I ?zzc ?_); (case zzc => first | with_reducible assumption | ((with_reducible apply mul_okA); (repeat' (first | with_reducible assumption | with_reducible apply Sz.mul | with_reducible apply Sz.addM | with_reducible apply Sz.subM | with_reducible apply Sz.neg | exact Sz.lit | decide)); done) | (show (0 : Int) < _; first | with_reducible assumption | decide | omega) | exact mul_okL | exact mul_okR | exact mul_okM | (exact div_ok (by with_reducible assumption) (by with_reducible assumption)) | (exact ⟨by with_reducible assumption, by with_reducible assumption⟩) | (exact ⟨by decide, by decide, by decide⟩) | (exact ⟨by decide, by decide⟩)))))
      rw [hs]
      refine ⟨p, a, b, (mn : Int), r, r, rfl, z5, m0, sm.mono (by decide), r0, Int.le_refl _, by omega, fun w H6 s6 hw => ?_⟩
      have pos : 0 < cntE a b mn r n := by
        have := cntE_all (a := a) (b := b) (m := (mn : Int)) (r := r) n
        omega
      obtain ⟨x0, rfl⟩ := fst_some pos hw
      have ss : Sz 900 (s : Int) := by
        rw [← hs]
        exact sm.div g0
      have sah : Sz 900 (num - cntB a b mn r n) := sn.le (by omega) (by have := cntB_range a b mn r n; omega)
      have okd : IntMulOk (num - cntB a b mn r n) (s : Int) := mul_ok sah ss
      rw [show oV (some (x0 : Int)) = V.int (x0 : Int) from rfl]
      (repeat (first | (with_reducible first | refine r_v5 ?_ | refine r_v6 ?_ | refine r_op ?_ | refine r_I0 ?_ | refine r_nil ?_) | ((with_reducible refine r_I ?zzc ?_); (case zzc => first | with_reducible assumption | ((with_reducible apply mul_okA); (repeat' (first | with_reducible assumption | with_reducible apply Sz.mul | with_reducible apply Sz.addM | with_reducible apply Sz.subM | with_reducible apply Sz.neg | exact Sz.lit | decide)); done) | (show (0 : Int) < _; first | with_reducible assumption | decide | omega) | exact mul_okL | exact mul_okR | exact mul_okM | (exact div_ok (by with_reducible assumption) (by with_reducible assumption)) | (exact ⟨by with_reducible assumption, by with_reducible assumption⟩) | (exact ⟨by decide, by decide, by decide⟩) | (exact ⟨by decide, by decide⟩)))))
      refine r_litT fun t H7 n7 s7 e7 => ?_
      have S7 := s5.trans (s6.trans s7)
      exact q t r _ H7 (Ex.trans ex4 (Ex.of S7)) (TabS.same tab4 S7) e7 (ord_of (by omega) hw hs s0 per lo hi)
/-! ### sum_place_squares -/

def sp_sum_place_squares (K : PySem.W.Frag) : Sp := fun vs H Q _ => ∃ (n : Int), vs = [.int n] ∧ Sz 3000 n ∧ Q (.int (pyr n)) H
theorem ok_sum_place_squares {P : Program} {w : World} {K : PySem.W.Frag} {mg : Str → Option Value} {base : Heap} (T : Top w K mg base) : FnOk P w K mg base CX0 1 T.f_sum_place_squares T.fd_sum_place_squares ["n"] (sp_sum_place_squares K) := by
  refine T.F_sum_place_squares.ok sc_sum_place_squares (fun vs H Q E h => ?_) (fun cdv A outer s H vs Q E hr h => ?_)
  · rcases h with ⟨n, rfl, _⟩ <;> rfl
  · obtain ⟨n, rfl, hz, q⟩ := h
    refine ⟨_, (pss_one (ps_ret (pe_op op_fdivW (pe_op op_mulG (pe_op op_mulG (pv 0) (pe_op op_sub (pv 0) pe_int)) (pe_op op_sub (pe_op op_mulG pe_int (pv 0)) pe_int)) pe_int))), ?_⟩
    try rw [st_sum_place_squares]

    have z1 : Sz 3000 1 := Sz.mono (a := 1) (by decide) (by decide)
    have ok : IntMulOk n (n - 1) := mul_ok (b := 3001) hz (hz.sub z1)
    have ok2 : IntMulOk (2 : Int) n := mul_okL
    have ok3 : IntMulOk (n * (n - 1)) (2 * n - 1) := mul_ok (hz.mul (hz.sub z1)) (((show Sz 2 (2 : Int) by decide).mul hz).sub (z1.mono (by decide)))
    have ok4 : CDivW (n * (n - 1) * (2 * n - 1)) 6 := ⟨by decide, by decide +kernel⟩
    (repeat (first | (with_reducible first | refine r_v0 ?_ | refine r_C ?_ | refine r_op ?_ | refine r_I0 ?_ | refine r_ret ?_) | ((with_reducible refine r_I ?zzc ?_); (case zzc => first | with_reducible assumption | ((with_reducible apply mul_okA); (repeat' (first | with_reducible assumption | with_reducible apply Sz.mul | with_reducible apply Sz.addM | with_reducible apply Sz.subM | with_reducible apply Sz.neg | exact Sz.lit | decide)); done) | (show (0 : Int) < _; first | with_reducible assumption | decide | omega) | exact mul_okL | exact mul_okR | exact mul_okM | (exact div_ok (by with_reducible assumption) (by with_reducible assumption)) | (exact ⟨by with_reducible assumption, by with_reducible assumption⟩) | (exact ⟨by decide, by decide, by decide⟩) | (exact ⟨by decide, by decide⟩)))))
    exact q
/-! ### sums_before_turning -/

def sp_sums_before_turning (K : PySem.W.Frag) : Sp := fun vs H Q _ => ∃ (n k : Int) (p : Addr) (s : Trp), vs = [.int n, .int k, .ref p] ∧ SqT K H p [.int s.1, .int s.2.1, .int s.2.2] ∧ Sz 1000 n ∧ Sz 1000 k ∧ TSz s ∧ ∀ (t : Addr) H', Same H H' → H' t = some (.tup [.int (turnT n k s).1, .int (turnT n k s).2.1, .int (turnT n k s).2.2]) → Q (.ref t) H'
theorem ok_sums_before_turning {P : Program} {w : World} {K : PySem.W.Frag} {mg : Str → Option Value} {base : Heap} (T : Top w K mg base) : FnOk P w K mg base CX0 1 T.f_sums_before_turning T.fd_sums_before_turning ["n", "k", "sums"] (sp_sums_before_turning K) := by
  refine T.F_sums_before_turning.ok sc_sums_before_turning (fun vs H Q E h => ?_) (fun cdv A outer s H vs Q E hr h => ?_)
  · rcases h with ⟨n, k, p, s, rfl, _⟩ <;> rfl
  · obtain ⟨n, k, p, s, rfl, hS, sn, sk, ⟨s1, s2, s3⟩, q⟩ := h
    refine ⟨_, (pss_cons (ps_asg (pv 2) (pg_tup rfl (pgs_cons (pg_name (i := 3) sc_sums_before_turning.nd rfl (Or.inl rfl)) (pgs_cons (pg_name (i := 4) sc_sums_before_turning.nd rfl (Or.inl rfl)) (pgs_cons (pg_name (i := 5) sc_sums_before_turning.nd rfl (Or.inl rfl)) pgs_nil)))))
  (pss_cons (ps_set (i := 6) sc_sums_before_turning.nd rfl (Or.inl rfl) (pe_op op_sub (pe_op op_mulG (pv 0) (pv 3)) (pe_op op_fdivW (pe_op op_add (pv 4) (pv 3)) pe_int)))
  (pss_cons (ps_set (i := 7) sc_sums_before_turning.nd rfl (Or.inl rfl) (pe_op op_sub (pe_op op_mulG (pe_op op_sub (pe_op op_mulG pe_int (pv 1)) pe_int) (pv 3)) (pe_op op_mulG pe_int (pv 5))))
  (pss_one (ps_ret (pe_tup (pa_cons (pv 3) (pa_cons (pv 7) (pa_cons (pv 6) pa_nil))))))))), ?_⟩
    try rw [st_sums_before_turning]

    have ok1 : IntMulOk n s.1 := mul_ok sn s1
    have ok2 : CDivW (s.2.1 + s.1) 2 := ⟨by decide, by decide +kernel⟩
    have ok3 : IntMulOk (2 * k - 1) s.1 := mul_ok (((show Sz 2 (2 : Int) by decide).mul sk).sub (Sz.mono (a := 1) (by decide) (by decide))) s1
    (repeat (first | (with_reducible first | refine r_v0 ?_ | refine r_v1 ?_ | refine r_v2 ?_ | refine r_v3 ?_ | refine r_v4 ?_ | refine r_v5 ?_ | refine r_v6 ?_ | refine r_v7 ?_ | refine r_gn3 ?_ | refine r_gn4 ?_ | refine r_gn5 ?_ | refine r_gn6 ?_ | refine r_gn7 ?_ | refine r_seq ?_ | refine r_asg ?_ | refine r_C ?_ | refine r_op ?_ | refine r_I0 ?_ | refine r_ret ?_ | refine r_cons ?_ | refine r_nil ?_ | refine r_tup ?_ | refine r_gcons ?_ | refine r_gnil ?_) | ((with_reducible refine' r_gtup ?zzs ?zzl ?_); (case zzs => assumption); (case zzl => exact rfl)) | ((with_reducible refine r_I ?zzc ?_); (case zzc => first | with_reducible assumption | ((with_reducible apply mul_okA); (repeat' (first | with_reducible assumption | with_reducible apply Sz.mul | with_reducible apply Sz.addM | with_reducible apply Sz.subM | with_reducible apply Sz.neg | exact Sz.lit | decide)); done) | (show (0 : Int) < _; first | with_reducible assumption | decide | omega) | exact mul_okL | exact mul_okR | exact mul_okM | (exact div_ok (by with_reducible assumption) (by with_reducible assumption)) | (exact ⟨by with_reducible assumption, by with_reducible assumption⟩) | (exact ⟨by decide, by decide, by decide⟩) | (exact ⟨by decide, by decide⟩)))))
    refine r_litT fun p1 H1 n1 h1 e1 => ?_
    exact q p1 H1 h1 e1
/-! ### sums_before_laying_off -/

def sp_sums_before_laying_off (K : PySem.W.Frag) : Sp := fun vs H Q _ => ∃ (n c r : Int) (p : Addr) (s : Trp), vs = [.int n, .int c, .int r, .ref p] ∧ SqT K H p [.int s.1, .int s.2.1, .int s.2.2] ∧ Sz 1000 n ∧ Sz 1000 c ∧ Sz 1000 r ∧ Sz 9000 s.1 ∧ Sz 9000 s.2.1 ∧ Sz 9000 s.2.2 ∧ ∀ (t : Addr) H', Same H H' → H' t = some (.tup [.int (layT n c r s).1, .int (layT n c r s).2.1, .int (layT n c r s).2.2]) → Q (.ref t) H'
theorem ok_sums_before_laying_off {P : Program} {w : World} {K : PySem.W.Frag} {mg : Str → Option Value} {base : Heap} (T : Top w K mg base) : FnOk P w K mg base CX0 2 T.f_sums_before_laying_off T.fd_sums_before_laying_off ["n", "q", "r", "sums"] (sp_sums_before_laying_off K) := by
  refine T.F_sums_before_laying_off.ok sc_sums_before_laying_off (fun vs H Q E h => ?_) (fun cdv A outer s H vs Q E hr h => ?_)
  · rcases h with ⟨n, c, r, p, s, rfl, _⟩ <;> rfl
  · obtain ⟨n, c, r, p, s, rfl, hS, sn, sc, sr, s1, s2, s3, q⟩ := h
    refine ⟨_, (pss_cons (ps_asg (pv 3) (pg_tup rfl (pgs_cons (pg_name (i := 4) sc_sums_before_laying_off.nd rfl (Or.inl rfl)) (pgs_cons (pg_name (i := 5) sc_sums_before_laying_off.nd rfl (Or.inl rfl)) (pgs_cons (pg_name (i := 6) sc_sums_before_laying_off.nd rfl (Or.inl rfl)) pgs_nil)))))
  (pss_cons (ps_set (i := 7) sc_sums_before_laying_off.nd rfl (Or.inl rfl) (pe_call (ok_sum_places T) (hr.mono (by decide)) (by rfl) T.g_sum_places T.F_sum_places.kp T.b_sum_places .nil pass0 (pa_cons (pv 0) pa_nil)))
  (pss_cons (ps_set (i := 8) sc_sums_before_laying_off.nd rfl (Or.inl rfl) (pe_call (ok_sum_place_squares T) (hr.mono (by decide)) (by rfl) T.g_sum_place_squares T.F_sum_place_squares.kp T.b_sum_place_squares .nil pass0 (pa_cons (pv 0) pa_nil)))
  (pss_cons (ps_set (i := 9) sc_sums_before_laying_off.nd rfl (Or.inl rfl) (pe_op op_add (pe_op op_add (pe_op op_mulG (pv 1) (pv 7)) (pe_op op_mulG (pv 2) (pv 0))) (pv 4)))
  (pss_cons (ps_set (i := 10) sc_sums_before_laying_off.nd rfl (Or.inl rfl) (pe_op op_add (pe_op op_add (pe_op op_mulG (pv 1) (pv 8)) (pe_op op_mulG (pv 2) (pv 7))) (pv 6)))
  (pss_cons (ps_set (i := 11) sc_sums_before_laying_off.nd rfl (Or.inl rfl) (pe_op op_add (pe_op op_add (pe_op op_mulG (pe_op op_mulG (pv 1) (pv 1)) (pv 8)) (pe_op op_mulG (pe_op op_mulG (pe_op op_mulG pe_int (pv 1)) (pv 2)) (pv 7))) (pe_op op_mulG (pe_op op_mulG (pv 2) (pv 2)) (pv 0))))
  (pss_cons (ps_set (i := 12) sc_sums_before_laying_off.nd rfl (Or.inl rfl) (pe_op op_add (pe_op op_add (pv 11) (pe_op op_mulG pe_int (pe_op op_add (pe_op op_mulG (pv 1) (pv 6)) (pe_op op_mulG (pv 2) (pv 4))))) (pv 5)))
  (pss_one (ps_ret (pe_tup (pa_cons (pv 9) (pa_cons (pv 12) (pa_cons (pv 10) pa_nil))))))))))))), ?_⟩
    try rw [st_sums_before_laying_off]

    have t2 : Sz 2 (2 : Int) := by decide
    have st := tri_sz sn (by decide)
    have sp := pyr_sz sn (by decide)
    have o1 : IntMulOk c (tri n) := mul_ok sc st
    have o2 : IntMulOk r n := mul_ok sr sn
    have o3 : IntMulOk c (pyr n) := mul_ok sc sp
    have o4 : IntMulOk r (tri n) := mul_ok sr st
    have o5 : IntMulOk c c := mul_ok sc sc
    have o6 : IntMulOk (c * c) (pyr n) := mul_ok (sc.mul sc) sp
    have o7 : IntMulOk (2 * c) r := mul_ok (t2.mul sc) sr
    have o8 : IntMulOk (2 * c * r) (tri n) := mul_ok ((t2.mul sc).mul sr) st
    have o9 : IntMulOk r r := mul_ok sr sr
    have o10 : IntMulOk (r * r) n := mul_ok (sr.mul sr) sn
    have o11 : IntMulOk c s.2.2 := mul_ok sc s3
    have o12 : IntMulOk r s.1 := mul_ok sr s1
    (repeat (first | (with_reducible first | refine r_v0 ?_ | refine r_v3 ?_ | refine r_gn4 ?_ | refine r_gn5 ?_ | refine r_gn6 ?_ | refine r_seq ?_ | refine r_asg ?_ | refine r_cons ?_ | refine r_nil ?_ | refine r_call ?_ | refine r_gcons ?_ | refine r_gnil ?_) | ((with_reducible refine' r_gtup ?zzs ?zzl ?_); (case zzs => assumption); (case zzl => exact rfl))))
    refine ⟨n, rfl, sn.mono (by decide), ?_⟩
    (repeat (with_reducible first | refine r_v0 ?_ | refine r_gn7 ?_ | refine r_seq ?_ | refine r_asg ?_ | refine r_cons ?_ | refine r_nil ?_ | refine r_call ?_))
    refine ⟨n, rfl, sn.mono (by decide), ?_⟩
    (repeat (first | (with_reducible first | refine r_v0 ?_ | refine r_v1 ?_ | refine r_v2 ?_ | refine r_v4 ?_ | refine r_v5 ?_ | refine r_v6 ?_ | refine r_v7 ?_ | refine r_v8 ?_ | refine r_v9 ?_ | refine r_v10 ?_ | refine r_v11 ?_ | refine r_v12 ?_ | refine r_gn8 ?_ | refine r_gn9 ?_ | refine r_gn10 ?_ | refine r_gn11 ?_ | refine r_gn12 ?_ | refine r_seq ?_ | refine r_asg ?_ | refine r_C ?_ | refine r_op ?_ | refine r_I0 ?_ | refine r_ret ?_ | refine r_cons ?_ | refine r_nil ?_ | refine r_tup ?_) | ((with_reducible refine r_I ?zzc ?_); (case zzc => first | with_reducible assumption | ((with_reducible apply mul_okA); (repeat' (first | with_reducible assumption | with_reducible apply Sz.mul | with_reducible apply Sz.addM | with_reducible apply Sz.subM | with_reducible apply Sz.neg | exact Sz.lit | decide)); done) | (show (0 : Int) < _; first | with_reducible assumption | decide | omega) | exact mul_okL | exact mul_okR | exact mul_okM | (exact div_ok (by with_reducible assumption) (by with_reducible assumption)) | (exact ⟨by with_reducible assumption, by with_reducible assumption⟩) | (exact ⟨by decide, by decide, by decide⟩) | (exact ⟨by decide, by decide⟩)))))
    refine r_litT fun p1 H1 n1 h1 e1 => ?_
    exact q p1 H1 h1 e1
/-! ### part_sums -/

def sp_part_sums (K : PySem.W.Frag) : Sp := fun vs H Q _ => ∃ (p : Addr) (a b m n : Int), vs = [.ref p, .int n] ∧ Ln K H p a b m ∧ 0 ≤ n ∧ Sz 1000 n ∧ ∀ (t : Addr) H', Same H H' → H' t = some (.tup [.int (sumP a b m n.toNat), .int (sumS a b m n.toNat), .int (sumX a b m n.toNat)]) → Q (.ref t) H'
theorem ok_part_sums {P : Program} {w : World} {K : PySem.W.Frag} {mg : Str → Option Value} {base : Heap} (T : Top w K mg base) : FnOk P w K mg base CX0 5 T.f_part_sums T.fd_part_sums ["line", "n"] (sp_part_sums K) := by
  refine T.F_part_sums.ok sc_part_sums (fun vs H Q E h => ?_) (fun cdv A outer s H vs Q E hr h => ?_)
  · rcases h with ⟨p, a, b, m, n, rfl, _⟩ <;> rfl
  · obtain ⟨p, a, b, m, n, rfl, L, hn, sn, q⟩ := h
    refine ⟨_, (pss_cons (ps_set (i := 2) sc_part_sums.nd rfl (Or.inl rfl) (pe_lst pa_nil))
  (pss_cons (ps_while PassesOwn.never (pt_cmpR op_notN (pv 0) pe_non (nomark _))
  (pss_cons (ps_asg (pe_call (ok_laid_off T) (hr.mono (by decide)) (by rfl) T.g_laid_off T.F_laid_off.kp T.b_laid_off .nil pass0 (pa_cons (pv 0) pa_nil)) (pg_tup rfl (pgs_cons (pg_name (i := 3) sc_part_sums.nd rfl (Or.inl rfl)) (pgs_cons (pg_name (i := 4) sc_part_sums.nd rfl (Or.inl rfl)) (pgs_cons (pg_name (i := 0) sc_part_sums.nd rfl (Or.inl rfl)) pgs_nil)))))
  (pss_cons (ps_asg (pe_call (ok_turned T) (hr.mono (by decide)) (by rfl) T.g_turned T.F_turned.kp T.b_turned .nil pass0 (pa_cons (pv 0) (pa_cons (pv 1) pa_nil))) (pg_tup rfl (pgs_cons (pg_name (i := 5) sc_part_sums.nd rfl (Or.inl rfl)) (pgs_cons (pg_name (i := 0) sc_part_sums.nd rfl (Or.inl rfl)) pgs_nil))))
  (pss_cons (ps_expr (pe_bm PySem.F.plainAttrs_list PySem.F.slot_list_append PySem.F.type_list_append mt_append (pv 2) (pa_cons (pe_tup (pa_cons (pv 1) (pa_cons (pv 3) (pa_cons (pv 4) (pa_cons (pv 5) pa_nil))))) pa_nil)))
  (pss_one (ps_set (i := 1) sc_part_sums.nd rfl (Or.inl rfl) (pv 5)))))))
  (pss_cons (ps_set (i := 6) sc_part_sums.nd rfl (Or.inl rfl) (pe_tup (pa_cons pe_int (pa_cons pe_int (pa_cons pe_int pa_nil)))))
  (pss_cons (ps_for PassesOwn.never rfl (pi_reversed (by rfl) T.n_reversed (pa_cons (pv 2) pa_nil)) (pg_tup rfl (pgs_cons (pg_name (i := 7) sc_part_sums.nd rfl (Or.inl rfl)) (pgs_cons (pg_name (i := 3) sc_part_sums.nd rfl (Or.inl rfl)) (pgs_cons (pg_name (i := 4) sc_part_sums.nd rfl (Or.inl rfl)) (pgs_cons (pg_name (i := 5) sc_part_sums.nd rfl (Or.inl rfl)) pgs_nil)))))
  (pss_one (ps_set (i := 6) sc_part_sums.nd rfl (Or.inl rfl) (pe_call (ok_sums_before_laying_off T) (hr.mono (by decide)) (by rfl) T.g_sums_before_laying_off T.F_sums_before_laying_off.kp T.b_sums_before_laying_off .nil pass0 (pa_cons (pv 7) (pa_cons (pv 3) (pa_cons (pv 4) (pa_cons (pe_call (ok_sums_before_turning T) (hr.mono (by decide)) (by rfl) T.g_sums_before_turning T.F_sums_before_turning.kp T.b_sums_before_turning .nil pass0 (pa_cons (pv 7) (pa_cons (pv 5) (pa_cons (pv 6) pa_nil)))) pa_nil))))))))
  (pss_one (ps_ret (pv 6))))))), ?_⟩
    try rw [st_part_sums]

    obtain ⟨all, hall⟩ := St.ex _ (a := a) (b := b) (Nat.le_refl m.toNat) L.pos L.sa L.sb L.sm hn sn
    (repeat (with_reducible first | refine r_seq ?_ | refine r_asg ?_ | refine r_nil ?_ | refine r_lst ?_))
    refine r_lit fun ps H0 np s0 e0 => ?_
    (repeat (with_reducible first | refine r_gn2 ?_ | refine r_seq ?_))
    refine r_while (fun j σ H' => ∃ (lv : V) (n' : Int) (v3 v4 v5 : Option V) (vs : List V) (ts : List Quad), σ = [some lv, some (.int n'), some (.ref ps), v3, v4, v5, none, none] ∧ Same H H' ∧ H' ps = some (.lst vs) ∧ Rw H' vs ts ∧ ((lv = .non ∧ ts = all) ∨
      ∃ (p' : Addr) (a' b' m' : Int) (l : List Quad), lv = .ref p' ∧ Ln K H' p' a' b' m' ∧ 0 ≤ n' ∧ Sz 1000 n' ∧ St a' b' m' n' l ∧ ts ++ l = all ∧ j = l.length)) all.length
      ⟨_, n, none, none, none, [], [], rfl, s0, e0, trivial, .inr ⟨p, a, b, m, all, rfl, L.same s0, hn, sn, hall, rfl, rfl⟩⟩ ?_
    rintro j σ H1 ⟨lv, n', v3, v4, v5, vs, ts, rfl, s1, e1, R1, hh⟩
    have few := hall.few2
    rcases hh with ⟨rfl, rfl⟩ | ⟨p', a', b', m', l, rfl, L', hn', sn', hst, et, rfl⟩
    · (repeat (with_reducible first | refine r_v0 ?_ | refine r_C ?_ | refine r_op ?_ | refine r_test ?_ | refine r_bl ?_ | refine r_notN ?_))
      refine r_iteN (fun h => absurd rfl h) (fun _ => ?_)
      (repeat (with_reducible first | refine r_seq ?_ | refine r_asg ?_ | refine r_C ?_ | refine r_cons ?_ | refine r_nil ?_ | refine r_tup ?_))
      refine r_litT fun pz H2 n2 s2 e2 => ?_
      (repeat (with_reducible first | refine r_v2 ?_ | refine r_gn6 ?_ | refine r_seq ?_ | refine r_cons ?_ | refine r_nil ?_ | refine r_for ?_ | refine r_rev ?_))
      refine ⟨ps, vs, rfl, .inl (.inl (s2 _ _ e1)), ?_⟩
      have len := R1.len
      refine loop_rev (fun i σ H' => ∃ (pz : Addr) (v3 v4 v5 v7 : Option V), σ = [some .non, some (.int n'), some (.ref ps), v3, v4, v5, some (.ref pz), v7] ∧ Same H2 H' ∧ H' pz = some (.tup [.int (valT (ts.drop (ts.length - i))).1, .int (valT (ts.drop (ts.length - i))).2.1, .int (valT (ts.drop (ts.length - i))).2.2])) ?_ ?_ ?_ ?_
      · refine ⟨pz, v3, v4, v5, none, rfl, Same.refl _, ?_⟩
        rw [Nat.sub_zero, List.drop_length]
        exact e2
      · rintro i σ H' hi ⟨pz, v3, v4, v5, v7, rfl, s3, e3⟩
        exact .inl (.inl (s3 _ _ (s2 _ _ e1)))
      · rintro i x σ H3 hi hx ⟨pz, v3, v4, v5, v7, rfl, s3, e3⟩
        obtain ⟨pt, t, rfl, ht, het⟩ := R1.get hx
        rw [len] at ht hi
        have zt : SqT K H3 pt [.int t.1, .int t.2.1, .int t.2.2.1, .int t.2.2.2] := .inl (.inl (s3 _ _ (s2 _ _ het)))
        obtain ⟨c1, c2, c3, c4⟩ := hall.qsz t (List.mem_of_getElem? ht)
        have hb := val_drop ht
        rw [show ts.length - 1 - i + 1 = ts.length - i by omega] at hb
        have hsz := hall.drop (ts.length - i)
        generalize valT (ts.drop (ts.length - i)) = s at *
        have z3 : SqT K H3 pz [.int s.1, .int s.2.1, .int s.2.2] := .inl (.inl e3)
        (repeat (first | (with_reducible first | refine r_v3 ?_ | refine r_v4 ?_ | refine r_v5 ?_ | refine r_v6 ?_ | refine r_v7 ?_ | refine r_gn3 ?_ | refine r_gn4 ?_ | refine r_gn5 ?_ | refine r_gn7 ?_ | refine r_asg ?_ | refine r_cons ?_ | refine r_nil ?_ | refine r_call ?_ | refine r_gcons ?_ | refine r_gnil ?_) | ((with_reducible refine' r_gtup ?zzs ?zzl ?_); (case zzs => assumption); (case zzl => exact rfl))))
        refine ⟨t.1, t.2.2.2, pz, s, rfl, z3, c1, c4, hsz, fun pu H4 s4 e4 => ?_⟩
        obtain ⟨d1, d2, d3⟩ := hsz
        have t2 : Sz 2 (2 : Int) := by decide
        (repeat (with_reducible refine r_nil ?_))
        refine ⟨t.1, t.2.1, t.2.2.1, pu, _, rfl, .inl (.inl e4), c1, c2, c3, d1.mono (by decide), ?_, ?_, fun pw H5 s5 e5 => ?_⟩
        · exact ((((t2.mul c4).sub (Sz.mono (a := 1) (by decide) (by decide))).mul d1).sub ((t2.mul d3).mono (by decide))).mono (by decide)
        · exact ((c1.mul d1).sub (((d2.add d1).div (by decide)).mono (by decide))).mono (by decide)
        (repeat (with_reducible refine r_gn6 ?_))
        refine ⟨pw, _, _, _, _, rfl, (s3.trans s4).trans s5, ?_⟩
        rw [show ts.length - (i + 1) = ts.length - 1 - i by omega, hb]
        exact e5
      · rintro σ H3 ⟨pz, v3, v4, v5, v7, rfl, s3, e3⟩
        rw [len, Nat.sub_self, List.drop_zero, hall.val] at e3
        (repeat (with_reducible first | refine r_v6 ?_ | refine r_ret ?_))
        exact q _ _ ((s1.trans s2).trans s3) e3
    · (repeat (with_reducible first | refine r_v0 ?_ | refine r_C ?_ | refine r_op ?_ | refine r_test ?_ | refine r_bl ?_ | refine r_notN ?_))
      refine r_iteN (fun _ => ?_) (fun h => nomatch h)
      refine while_ok ?_
      have hm' := L'.pos
      have lg := lg_ok hm' L'.sm
      (repeat (with_reducible first | refine r_v0 ?_ | refine r_seq ?_ | refine r_asg ?_ | refine r_cons ?_ | refine r_nil ?_ | refine r_call ?_))
      refine ⟨p', a', b', m', rfl, L'.at_, hm', lg, fun t t' H2 s2 e2 e3 => ?_⟩
      have z3 : SqT K H2 t [.int (a' / m'), .int (b' / m'), .ref t'] := .inl (.inl e3)
      (repeat (first | (with_reducible first | refine r_v0 ?_ | refine r_v1 ?_ | refine r_gn0 ?_ | refine r_gn3 ?_ | refine r_gn4 ?_ | refine r_seq ?_ | refine r_asg ?_ | refine r_cons ?_ | refine r_nil ?_ | refine r_call ?_ | refine r_gcons ?_ | refine r_gnil ?_) | ((with_reducible refine' r_gtup ?zzs ?zzl ?_); (case zzs => assumption); (case zzl => exact rfl))))
      have a0 := Int.emod_nonneg a' (b := m') (by omega)
      have a1 := Int.emod_lt_of_pos a' hm'
      have b0 := Int.emod_nonneg b' (b := m') (by omega)
      have b1 := Int.emod_lt_of_pos b' hm'
      have sa2 : Sz 1000 (a' % m') := L'.sm.mod hm'
      have e1' := s2 _ _ e1
      have R2 : Rw H2 vs ts := R1.more fun p xs e => s2 _ _ e
      have lts : ts.length + l.length ≤ 5000 := by
        rw [← List.length_append, et]
        exact few
      have lvs : vs.length < 10000 := by
        have := R1.len
        omega
      refine ⟨t', _, _, m', n', rfl, .inl (.inl e2), a0, a1, b0, b1, lg, mul_ok sa2 sn', fun hk t4 H4 s4 e4 => ?_, fun hk t4 t5 H4 s4 e4 e5 => ?_⟩
      · have z4 : SqT K H4 t4 [.int 0, .non] := .inl (.inl e4)
        (repeat (first | (with_reducible first | refine r_v2 ?_ | refine r_gn0 ?_ | refine r_gn5 ?_ | refine r_seq ?_ | refine r_drop ?_ | refine r_gcons ?_ | refine r_gnil ?_ | refine r_bm ?_) | ((with_reducible refine' r_gtup ?zzs ?zzl ?_); (case zzs => assumption); (case zzl => exact rfl))))
        refine ⟨ty_list (s4 _ _ e1'), ?_⟩
        (repeat (with_reducible first | refine r_v1 ?_ | refine r_v3 ?_ | refine r_v4 ?_ | refine r_v5 ?_ | refine r_cons ?_ | refine r_nil ?_ | refine r_tup ?_))
        refine r_litT fun p6 H6 n6 s6 e6 => ?_
        (repeat (with_reducible refine r_nil ?_))
        refine r_appW (s6 _ _ (s4 _ _ e1')) lvs fun H7 e7 b7 => ?_
        (repeat (with_reducible first | refine r_v5 ?_ | refine r_gn1 ?_ | refine r_asg ?_))
        cases hst with
        | step hm sa sb sm hn sn hk' h => exact absurd hk hk'
        | last hm sa sb sm hn sn hk' =>
        have R6 : Rw H6 vs ts := R2.more fun p xs e => s6 _ _ (s4 _ _ e)
        refine ⟨0, Nat.succ_pos _, _, _, _, _, _, _, _, rfl, ?_, e7, Rw.app (t := (n', a' / m', b' / m', 0)) (but_tup (s6 _ _ (s4 _ _ e1')) b7 _ _ e6) (R6.more (but_tup (s6 _ _ (s4 _ _ e1')) b7)), .inl ⟨rfl, et⟩⟩
        exact same_but (((s1.trans s2).trans s4).trans s6) np b7
      · have z4 : SqT K H4 t4 [.int ((a' % m' * n' + b' % m') / m'), .ref t5] := .inl (.inl e5)
        (repeat (first | (with_reducible first | refine r_v2 ?_ | refine r_gn0 ?_ | refine r_gn5 ?_ | refine r_seq ?_ | refine r_drop ?_ | refine r_gcons ?_ | refine r_gnil ?_ | refine r_bm ?_) | ((with_reducible refine' r_gtup ?zzs ?zzl ?_); (case zzs => assumption); (case zzl => exact rfl))))
        refine ⟨ty_list (s4 _ _ e1'), ?_⟩
        (repeat (with_reducible first | refine r_v1 ?_ | refine r_v3 ?_ | refine r_v4 ?_ | refine r_v5 ?_ | refine r_cons ?_ | refine r_nil ?_ | refine r_tup ?_))
        refine r_litT fun p6 H6 n6 s6 e6 => ?_
        (repeat (with_reducible refine r_nil ?_))
        refine r_appW (s6 _ _ (s4 _ _ e1')) lvs fun H7 e7 b7 => ?_
        (repeat (with_reducible first | refine r_v5 ?_ | refine r_gn1 ?_ | refine r_asg ?_))
        cases hst with
        | last hm sa sb sm hn sn hk' => exact absurd hk' hk
        | @step _ _ _ _ l hm sa sb sm hn sn hk' h =>
        obtain ⟨c0, c1, d1, d2, k0, k1⟩ := turn_facts (a := a') (b := b') hm sm hn' sn' hk
        have R6 : Rw H6 vs ts := R2.more fun p xs e => s6 _ _ (s4 _ _ e)
        have bt := but_tup (s6 _ _ (s4 _ _ e1')) b7
        refine ⟨l.length, Nat.lt_succ_self _, _, _, _, _, _, _, _, rfl, ?_, e7, Rw.app (t := (n', a' / m', b' / m', (a' % m' * n' + b' % m') / m')) (bt _ _ e6) (R6.more bt), .inr ⟨t5, m', _, _, l, rfl, ⟨.inl (.inl (bt _ _ (s6 _ _ e4))), c0, sm, d2, d1⟩, k0, sn'.le k0 k1, h, ?_, rfl⟩⟩
        · exact same_but (((s1.trans s2).trans s4).trans s6) np b7
        · rw [List.append_assoc]
          exact et
/-! ### sum_squares -/

def sp_sum_squares (K : PySem.W.Frag) : Sp := fun vs H Q _ => ∃ (p : Addr) (a b m n : Int), vs = [.ref p, .int n] ∧ Ln K H p a b m ∧ 0 ≤ n ∧ Sz 1000 n ∧ ∀ H', Same H H' → Q (.int (sumS a b m n.toNat)) H'
theorem ok_sum_squares {P : Program} {w : World} {K : PySem.W.Frag} {mg : Str → Option Value} {base : Heap} (T : Top w K mg base) : FnOk P w K mg base CX0 6 T.f_sum_squares T.fd_sum_squares ["line", "n"] (sp_sum_squares K) := by
  refine T.F_sum_squares.ok sc_sum_squares (fun vs H Q E h => ?_) (fun cdv A outer s H vs Q E hr h => ?_)
  · rcases h with ⟨p, a, b, m, n, rfl, _⟩ <;> rfl
  · obtain ⟨p, a, b, m, n, rfl, L, hn, sn, q⟩ := h
    refine ⟨_, (pss_one (ps_ret (pe_ix ix_tup (pe_call (ok_part_sums T) (hr.mono (by decide)) (by rfl) T.g_part_sums T.F_part_sums.kp T.b_part_sums .nil pass0 (pa_cons (pv 0) (pa_cons (pv 1) pa_nil))) pe_int (fun _ _ => rfl)))), ?_⟩
    try rw [st_sum_squares]

    (repeat (with_reducible first | refine r_v0 ?_ | refine r_v1 ?_ | refine r_op ?_ | refine r_ret ?_ | refine r_cons ?_ | refine r_nil ?_ | refine r_call ?_))
    refine ⟨p, a, b, m, n, rfl, L, hn, sn, fun t H1 s1 e1 => ?_⟩
    have z1 : SqT K H1 t [.int (sumP a b m n.toNat), .int (sumS a b m n.toNat), .int (sumX a b m n.toNat)] := .inl (.inl e1)
    (repeat (first | (with_reducible refine r_C ?_) | ((with_reducible refine' r_ixT ?zzs ?zze ?_); (case zzs => assumption); (case zze => exact rfl))))
    exact q _ s1
/-! ### sum_placed -/

def sp_sum_placed (K : PySem.W.Frag) : Sp := fun vs H Q _ => ∃ (p : Addr) (a b m n : Int), vs = [.ref p, .int n] ∧ Ln K H p a b m ∧ 0 ≤ n ∧ Sz 1000 n ∧ ∀ H', Same H H' → Q (.int (sumX a b m n.toNat)) H'
theorem ok_sum_placed {P : Program} {w : World} {K : PySem.W.Frag} {mg : Str → Option Value} {base : Heap} (T : Top w K mg base) : FnOk P w K mg base CX0 6 T.f_sum_placed T.fd_sum_placed ["line", "n"] (sp_sum_placed K) := by
  refine T.F_sum_placed.ok sc_sum_placed (fun vs H Q E h => ?_) (fun cdv A outer s H vs Q E hr h => ?_)
  · rcases h with ⟨p, a, b, m, n, rfl, _⟩ <;> rfl
  · obtain ⟨p, a, b, m, n, rfl, L, hn, sn, q⟩ := h
    refine ⟨_, (pss_one (ps_ret (pe_ix ix_tup (pe_call (ok_part_sums T) (hr.mono (by decide)) (by rfl) T.g_part_sums T.F_part_sums.kp T.b_part_sums .nil pass0 (pa_cons (pv 0) (pa_cons (pv 1) pa_nil))) pe_int (fun _ _ => rfl)))), ?_⟩
    try rw [st_sum_placed]

    (repeat (with_reducible first | refine r_v0 ?_ | refine r_v1 ?_ | refine r_op ?_ | refine r_ret ?_ | refine r_cons ?_ | refine r_nil ?_ | refine r_call ?_))
    refine ⟨p, a, b, m, n, rfl, L, hn, sn, fun t H1 s1 e1 => ?_⟩
    have z1 : SqT K H1 t [.int (sumP a b m n.toNat), .int (sumS a b m n.toNat), .int (sumX a b m n.toNat)] := .inl (.inl e1)
    (repeat (first | (with_reducible refine r_C ?_) | ((with_reducible refine' r_ixT ?zzs ?zze ?_); (case zzs => assumption); (case zze => exact rfl))))
    exact q _ s1
/-! ### part_rows -/

def sp_part_rows (K : PySem.W.Frag) (P : Addr) : Sp := RowSp lq_in_order K P cOne aPart
theorem ok_part_rows {P : Program} {w : World} {K : PySem.W.Frag} {mg : Str → Option Value} {base : Heap} (T : Top w K mg base) : FnOk P w K mg base CX0 4 T.f_part_rows T.fd_part_rows ["line", "numbers"] (sp_part_rows K T.p_in_order_) := by
  refine T.F_part_rows.ok sc_part_rows (fun vs H Q E h => ?_) (fun cdv A outer s H vs Q E hr h => ?_)
  · rcases h with ⟨p, pn, a, b, m, ns, rfl, _⟩ <;> rfl
  · obtain ⟨p, pn, a, b, m, ns, rfl, z, m0, sa, sb, sm, qn, sns, ⟨n, rfl⟩, tab, q⟩ := h
    refine ⟨_, (pss_one (ps_ret (pe_lst (pa_cons (pe_tup (pa_cons (pe_call (ok_part_at T) (hr.mono (by decide)) (by rfl) T.g_part_at T.F_part_at.kp T.b_part_at .nil pass0 (pa_cons (pv 0) (pa_cons (pe_ix ix_list (pv 1) pe_int (fun _ _ => rfl)) pa_nil))) pa_nil)) pa_nil)))), ?_⟩
    try rw [st_part_rows]

    have zn : SqL K H pn [.int n] := qn
    have sn := sns n List.mem_cons_self
    have L : Ln K H p a b m := ⟨z, m0, sa.mono (by decide), sb.mono (by decide), sm.mono (by decide)⟩
    have lg := lg_ok m0 sm

    (repeat (first | (with_reducible first | refine r_v0 ?_ | refine r_v1 ?_ | refine r_C ?_ | refine r_op ?_ | refine r_ret ?_ | refine r_cons ?_ | refine r_nil ?_ | refine r_call ?_ | refine r_tup ?_ | refine r_lst ?_) | ((with_reducible refine' r_ixL ?zzs ?zze ?_); (case zzs => first | assumption | exact SqL.of (by assumption)); (case zze => exact rfl))))
    refine ⟨p, a, b, m, n, rfl, z, m0, mul_ok sa sn, lg, ?_⟩
    (repeat (with_reducible refine r_nil ?_))
    refine r_litT fun p2 G2 n2 s2 e2 => ?_
    (repeat (with_reducible refine r_nil ?_))
    refine r_lit fun p3 G3 n3 s3 e3 => ?_
    exact q p3 _ [[(a * n + b) / m]] G3 (Ex.of ((s2).trans s3)) (TabS.same tab ((s2).trans s3)) (by intro z' e'; cases e'; rfl) e3 ⟨⟨p2, rfl, s3 _ _ e2⟩, trivial⟩ (show 1 ≤ 5000 by decide) (fun r hr => by rw [List.mem_singleton.mp hr]; exact ⟨(show 1 ≤ 5 by decide), fun z hz => by rw [List.mem_singleton.mp hz]; exact ((((sa.mul sn).mono (b := 700) (by decide)).add (sb.mono (by decide))).div m0).mono (by decide)⟩)
/-! ### rest_rows -/

def sp_rest_rows (K : PySem.W.Frag) (P : Addr) : Sp := RowSp lq_in_order K P cOne aRest
theorem ok_rest_rows {P : Program} {w : World} {K : PySem.W.Frag} {mg : Str → Option Value} {base : Heap} (T : Top w K mg base) : FnOk P w K mg base CX0 4 T.f_rest_rows T.fd_rest_rows ["line", "numbers"] (sp_rest_rows K T.p_in_order_) := by
  refine T.F_rest_rows.ok sc_rest_rows (fun vs H Q E h => ?_) (fun cdv A outer s H vs Q E hr h => ?_)
  · rcases h with ⟨p, pn, a, b, m, ns, rfl, _⟩ <;> rfl
  · obtain ⟨p, pn, a, b, m, ns, rfl, z, m0, sa, sb, sm, qn, sns, ⟨n, rfl⟩, tab, q⟩ := h
    refine ⟨_, (pss_one (ps_ret (pe_lst (pa_cons (pe_tup (pa_cons (pe_call (ok_rest_at T) (hr.mono (by decide)) (by rfl) T.g_rest_at T.F_rest_at.kp T.b_rest_at .nil pass0 (pa_cons (pv 0) (pa_cons (pe_ix ix_list (pv 1) pe_int (fun _ _ => rfl)) pa_nil))) pa_nil)) pa_nil)))), ?_⟩
    try rw [st_rest_rows]

    have zn : SqL K H pn [.int n] := qn
    have sn := sns n List.mem_cons_self
    have L : Ln K H p a b m := ⟨z, m0, sa.mono (by decide), sb.mono (by decide), sm.mono (by decide)⟩
    have lg := lg_ok m0 sm

    (repeat (first | (with_reducible first | refine r_v0 ?_ | refine r_v1 ?_ | refine r_C ?_ | refine r_op ?_ | refine r_ret ?_ | refine r_cons ?_ | refine r_nil ?_ | refine r_call ?_ | refine r_tup ?_ | refine r_lst ?_) | ((with_reducible refine' r_ixL ?zzs ?zze ?_); (case zzs => first | assumption | exact SqL.of (by assumption)); (case zze => exact rfl))))
    refine ⟨p, a, b, m, n, rfl, z, m0, mul_ok sa sn, ?_⟩
    (repeat (with_reducible refine r_nil ?_))
    refine r_litT fun p2 G2 n2 s2 e2 => ?_
    (repeat (with_reducible refine r_nil ?_))
    refine r_lit fun p3 G3 n3 s3 e3 => ?_
    exact q p3 _ [[(a * n + b) % m]] G3 (Ex.of ((s2).trans s3)) (TabS.same tab ((s2).trans s3)) (by intro z' e'; cases e'; rfl) e3 ⟨⟨p2, rfl, s3 _ _ e2⟩, trivial⟩ (show 1 ≤ 5000 by decide) (fun r hr => by rw [List.mem_singleton.mp hr]; exact ⟨(show 1 ≤ 5 by decide), fun z hz => by rw [List.mem_singleton.mp hz]; exact (sm.mod m0).mono (by decide)⟩)
/-! ### sum_rows -/

def sp_sum_rows (K : PySem.W.Frag) (P : Addr) : Sp := RowSp lq_in_order K P cCnt aSum
theorem ok_sum_rows {P : Program} {w : World} {K : PySem.W.Frag} {mg : Str → Option Value} {base : Heap} (T : Top w K mg base) : FnOk P w K mg base CX0 6 T.f_sum_rows T.fd_sum_rows ["line", "numbers"] (sp_sum_rows K T.p_in_order_) := by
  refine T.F_sum_rows.ok sc_sum_rows (fun vs H Q E h => ?_) (fun cdv A outer s H vs Q E hr h => ?_)
  · rcases h with ⟨p, pn, a, b, m, ns, rfl, _⟩ <;> rfl
  · obtain ⟨p, pn, a, b, m, ns, rfl, z, m0, sa, sb, sm, qn, sns, ⟨n, rfl, n0⟩, tab, q⟩ := h
    refine ⟨_, (pss_one (ps_ret (pe_lst (pa_cons (pe_tup (pa_cons (pe_call (ok_sum_parts T) (hr.mono (by decide)) (by rfl) T.g_sum_parts T.F_sum_parts.kp T.b_sum_parts .nil pass0 (pa_cons (pv 0) (pa_cons (pe_ix ix_list (pv 1) pe_int (fun _ _ => rfl)) pa_nil))) pa_nil)) pa_nil)))), ?_⟩
    try rw [st_sum_rows]

    have zn : SqL K H pn [.int n] := qn
    have sn := sns n List.mem_cons_self
    have L : Ln K H p a b m := ⟨z, m0, sa.mono (by decide), sb.mono (by decide), sm.mono (by decide)⟩
    have lg := lg_ok m0 sm

    (repeat (first | (with_reducible first | refine r_v0 ?_ | refine r_v1 ?_ | refine r_C ?_ | refine r_op ?_ | refine r_ret ?_ | refine r_cons ?_ | refine r_nil ?_ | refine r_call ?_ | refine r_tup ?_ | refine r_lst ?_) | ((with_reducible refine' r_ixL ?zzs ?zze ?_); (case zzs => first | assumption | exact SqL.of (by assumption)); (case zze => exact rfl))))
    refine ⟨p, a, b, m, n, rfl, L, n0, sn.mono (by decide), fun H1 s1 => ?_⟩
    (repeat (with_reducible refine r_nil ?_))
    refine r_litT fun p2 G2 n2 s2 e2 => ?_
    (repeat (with_reducible refine r_nil ?_))
    refine r_lit fun p3 G3 n3 s3 e3 => ?_
    exact q p3 _ [[sumP a b m n.toNat]] G3 (Ex.of ((s1.trans s2).trans s3)) (TabS.same tab ((s1.trans s2).trans s3)) (by intro z' e'; cases e'; rfl) e3 ⟨⟨p2, rfl, s3 _ _ e2⟩, trivial⟩ (show 1 ≤ 5000 by decide) (fun r hr => by rw [List.mem_singleton.mp hr]; exact ⟨(show 1 ≤ 5 by decide), fun z hz => by rw [List.mem_singleton.mp hz]; exact sz_sumP m0 sa sb sm n0 sn⟩)
/-! ### rests_rows -/

def sp_rests_rows (K : PySem.W.Frag) (P : Addr) : Sp := RowSp lq_in_order K P cCnt aRests
theorem ok_rests_rows {P : Program} {w : World} {K : PySem.W.Frag} {mg : Str → Option Value} {base : Heap} (T : Top w K mg base) : FnOk P w K mg base CX0 7 T.f_rests_rows T.fd_rests_rows ["line", "numbers"] (sp_rests_rows K T.p_in_order_) := by
  refine T.F_rests_rows.ok sc_rests_rows (fun vs H Q E h => ?_) (fun cdv A outer s H vs Q E hr h => ?_)
  · rcases h with ⟨p, pn, a, b, m, ns, rfl, _⟩ <;> rfl
  · obtain ⟨p, pn, a, b, m, ns, rfl, z, m0, sa, sb, sm, qn, sns, ⟨n, rfl, n0⟩, tab, q⟩ := h
    refine ⟨_, (pss_one (ps_ret (pe_lst (pa_cons (pe_tup (pa_cons (pe_call (ok_sum_rests T) (hr.mono (by decide)) (by rfl) T.g_sum_rests T.F_sum_rests.kp T.b_sum_rests .nil pass0 (pa_cons (pv 0) (pa_cons (pe_ix ix_list (pv 1) pe_int (fun _ _ => rfl)) pa_nil))) pa_nil)) pa_nil)))), ?_⟩
    try rw [st_rests_rows]

    have zn : SqL K H pn [.int n] := qn
    have sn := sns n List.mem_cons_self
    have L : Ln K H p a b m := ⟨z, m0, sa.mono (by decide), sb.mono (by decide), sm.mono (by decide)⟩
    have lg := lg_ok m0 sm

    (repeat (first | (with_reducible first | refine r_v0 ?_ | refine r_v1 ?_ | refine r_C ?_ | refine r_op ?_ | refine r_ret ?_ | refine r_cons ?_ | refine r_nil ?_ | refine r_call ?_ | refine r_tup ?_ | refine r_lst ?_) | ((with_reducible refine' r_ixL ?zzs ?zze ?_); (case zzs => first | assumption | exact SqL.of (by assumption)); (case zze => exact rfl))))
    refine ⟨p, a, b, m, n, rfl, L, n0, sn.mono (by decide), fun H1 s1 => ?_⟩
    (repeat (with_reducible refine r_nil ?_))
    refine r_litT fun p2 G2 n2 s2 e2 => ?_
    (repeat (with_reducible refine r_nil ?_))
    refine r_lit fun p3 G3 n3 s3 e3 => ?_
    exact q p3 _ [[sumR a b m n.toNat]] G3 (Ex.of ((s1.trans s2).trans s3)) (TabS.same tab ((s1.trans s2).trans s3)) (by intro z' e'; cases e'; rfl) e3 ⟨⟨p2, rfl, s3 _ _ e2⟩, trivial⟩ (show 1 ≤ 5000 by decide) (fun r hr => by rw [List.mem_singleton.mp hr]; exact ⟨(show 1 ≤ 5 by decide), fun z hz => by rw [List.mem_singleton.mp hz]; exact sz_sumR m0 sa sb sm n0 sn⟩)
/-! ### squares_rows -/

def sp_squares_rows (K : PySem.W.Frag) (P : Addr) : Sp := RowSp lq_in_order K P cCnt aSq
theorem ok_squares_rows {P : Program} {w : World} {K : PySem.W.Frag} {mg : Str → Option Value} {base : Heap} (T : Top w K mg base) : FnOk P w K mg base CX0 7 T.f_squares_rows T.fd_squares_rows ["line", "numbers"] (sp_squares_rows K T.p_in_order_) := by
  refine T.F_squares_rows.ok sc_squares_rows (fun vs H Q E h => ?_) (fun cdv A outer s H vs Q E hr h => ?_)
  · rcases h with ⟨p, pn, a, b, m, ns, rfl, _⟩ <;> rfl
  · obtain ⟨p, pn, a, b, m, ns, rfl, z, m0, sa, sb, sm, qn, sns, ⟨n, rfl, n0⟩, tab, q⟩ := h
    refine ⟨_, (pss_one (ps_ret (pe_lst (pa_cons (pe_tup (pa_cons (pe_call (ok_sum_squares T) (hr.mono (by decide)) (by rfl) T.g_sum_squares T.F_sum_squares.kp T.b_sum_squares .nil pass0 (pa_cons (pv 0) (pa_cons (pe_ix ix_list (pv 1) pe_int (fun _ _ => rfl)) pa_nil))) pa_nil)) pa_nil)))), ?_⟩
    try rw [st_squares_rows]

    have zn : SqL K H pn [.int n] := qn
    have sn := sns n List.mem_cons_self
    have L : Ln K H p a b m := ⟨z, m0, sa.mono (by decide), sb.mono (by decide), sm.mono (by decide)⟩
    have lg := lg_ok m0 sm

    (repeat (first | (with_reducible first | refine r_v0 ?_ | refine r_v1 ?_ | refine r_C ?_ | refine r_op ?_ | refine r_ret ?_ | refine r_cons ?_ | refine r_nil ?_ | refine r_call ?_ | refine r_tup ?_ | refine r_lst ?_) | ((with_reducible refine' r_ixL ?zzs ?zze ?_); (case zzs => first | assumption | exact SqL.of (by assumption)); (case zze => exact rfl))))
    refine ⟨p, a, b, m, n, rfl, L, n0, sn.mono (by decide), fun H1 s1 => ?_⟩
    (repeat (with_reducible refine r_nil ?_))
    refine r_litT fun p2 G2 n2 s2 e2 => ?_
    (repeat (with_reducible refine r_nil ?_))
    refine r_lit fun p3 G3 n3 s3 e3 => ?_
    exact q p3 _ [[sumS a b m n.toNat]] G3 (Ex.of ((s1.trans s2).trans s3)) (TabS.same tab ((s1.trans s2).trans s3)) (by intro z' e'; cases e'; rfl) e3 ⟨⟨p2, rfl, s3 _ _ e2⟩, trivial⟩ (show 1 ≤ 5000 by decide) (fun r hr => by rw [List.mem_singleton.mp hr]; exact ⟨(show 1 ≤ 5 by decide), fun z hz => by rw [List.mem_singleton.mp hz]; exact sz_sumS m0 sa sb sm n0 sn⟩)
/-! ### placed_rows -/

def sp_placed_rows (K : PySem.W.Frag) (P : Addr) : Sp := RowSp lq_in_order K P cCnt aPl
theorem ok_placed_rows {P : Program} {w : World} {K : PySem.W.Frag} {mg : Str → Option Value} {base : Heap} (T : Top w K mg base) : FnOk P w K mg base CX0 7 T.f_placed_rows T.fd_placed_rows ["line", "numbers"] (sp_placed_rows K T.p_in_order_) := by
  refine T.F_placed_rows.ok sc_placed_rows (fun vs H Q E h => ?_) (fun cdv A outer s H vs Q E hr h => ?_)
  · rcases h with ⟨p, pn, a, b, m, ns, rfl, _⟩ <;> rfl
  · obtain ⟨p, pn, a, b, m, ns, rfl, z, m0, sa, sb, sm, qn, sns, ⟨n, rfl, n0⟩, tab, q⟩ := h
    refine ⟨_, (pss_one (ps_ret (pe_lst (pa_cons (pe_tup (pa_cons (pe_call (ok_sum_placed T) (hr.mono (by decide)) (by rfl) T.g_sum_placed T.F_sum_placed.kp T.b_sum_placed .nil pass0 (pa_cons (pv 0) (pa_cons (pe_ix ix_list (pv 1) pe_int (fun _ _ => rfl)) pa_nil))) pa_nil)) pa_nil)))), ?_⟩
    try rw [st_placed_rows]

    have zn : SqL K H pn [.int n] := qn
    have sn := sns n List.mem_cons_self
    have L : Ln K H p a b m := ⟨z, m0, sa.mono (by decide), sb.mono (by decide), sm.mono (by decide)⟩
    have lg := lg_ok m0 sm

    (repeat (first | (with_reducible first | refine r_v0 ?_ | refine r_v1 ?_ | refine r_C ?_ | refine r_op ?_ | refine r_ret ?_ | refine r_cons ?_ | refine r_nil ?_ | refine r_call ?_ | refine r_tup ?_ | refine r_lst ?_) | ((with_reducible refine' r_ixL ?zzs ?zze ?_); (case zzs => first | assumption | exact SqL.of (by assumption)); (case zze => exact rfl))))
    refine ⟨p, a, b, m, n, rfl, L, n0, sn.mono (by decide), fun H1 s1 => ?_⟩
    (repeat (with_reducible refine r_nil ?_))
    refine r_litT fun p2 G2 n2 s2 e2 => ?_
    (repeat (with_reducible refine r_nil ?_))
    refine r_lit fun p3 G3 n3 s3 e3 => ?_
    exact q p3 _ [[sumX a b m n.toNat]] G3 (Ex.of ((s1.trans s2).trans s3)) (TabS.same tab ((s1.trans s2).trans s3)) (by intro z' e'; cases e'; rfl) e3 ⟨⟨p2, rfl, s3 _ _ e2⟩, trivial⟩ (show 1 ≤ 5000 by decide) (fun r hr => by rw [List.mem_singleton.mp hr]; exact ⟨(show 1 ≤ 5 by decide), fun z hz => by rw [List.mem_singleton.mp hz]; exact sz_sumX m0 sa sb sm n0 sn⟩)
/-! ### between_rows -/

def sp_between_rows (K : PySem.W.Frag) (P : Addr) : Sp := RowSp lq_in_order K P cBet aBet
theorem ok_between_rows {P : Program} {w : World} {K : PySem.W.Frag} {mg : Str → Option Value} {base : Heap} (T : Top w K mg base) : FnOk P w K mg base CX0 7 T.f_between_rows T.fd_between_rows ["line", "numbers"] (sp_between_rows K T.p_in_order_) := by
  refine T.F_between_rows.ok sc_between_rows (fun vs H Q E h => ?_) (fun cdv A outer s H vs Q E hr h => ?_)
  · rcases h with ⟨p, pn, a, b, m, ns, rfl, _⟩ <;> rfl
  · obtain ⟨p, pn, a, b, m, ns, rfl, z, m0, sa, sb, sm, qn, sns, ⟨x, y, rfl, xy⟩, tab, q⟩ := h
    refine ⟨_, (pss_one (ps_ret (pe_lst (pa_cons (pe_tup (pa_cons (pe_call (ok_sum_between T) (hr.mono (by decide)) (by rfl) T.g_sum_between T.F_sum_between.kp T.b_sum_between .nil pass0 (pa_cons (pv 0) (pa_cons (pe_ix ix_list (pv 1) pe_int (fun _ _ => rfl)) (pa_cons (pe_ix ix_list (pv 1) pe_int (fun _ _ => rfl)) pa_nil)))) pa_nil)) pa_nil)))), ?_⟩
    try rw [st_between_rows]

    have zn : SqL K H pn [.int x, .int y] := qn
    have sx := sns x List.mem_cons_self
    have sy := sns y (List.mem_cons_of_mem _ List.mem_cons_self)
    have L : Ln K H p a b m := ⟨z, m0, sa.mono (by decide), sb.mono (by decide), sm.mono (by decide)⟩
    have lg := lg_ok m0 sm

    (repeat (first | (with_reducible first | refine r_v0 ?_ | refine r_v1 ?_ | refine r_C ?_ | refine r_op ?_ | refine r_ret ?_ | refine r_cons ?_ | refine r_nil ?_ | refine r_call ?_ | refine r_tup ?_ | refine r_lst ?_) | ((with_reducible refine' r_ixL ?zzs ?zze ?_); (case zzs => first | assumption | exact SqL.of (by assumption)); (case zze => exact rfl))))
    refine ⟨p, a, b, m, x, y, rfl, L, sa.mono (by decide), sb.mono (by decide), sx.mono (by decide), xy, (sy.sub sx).mono (by decide), fun H1 s1 => ?_⟩
    (repeat (with_reducible refine r_nil ?_))
    refine r_litT fun p2 G2 n2 s2 e2 => ?_
    (repeat (with_reducible refine r_nil ?_))
    refine r_lit fun p3 G3 n3 s3 e3 => ?_
    exact q p3 _ [[sumP a (a * x + b) m (y - x).toNat]] G3 (Ex.of ((s1.trans s2).trans s3)) (TabS.same tab ((s1.trans s2).trans s3)) (by intro x' y' e'; cases e'; rfl) e3 ⟨⟨p2, rfl, s3 _ _ e2⟩, trivial⟩ (show 1 ≤ 5000 by decide) (fun r hr => by rw [List.mem_singleton.mp hr]; exact ⟨(show 1 ≤ 5 by decide), fun z hz => by rw [List.mem_singleton.mp hz]; exact sz_sumP m0 sa (((sa.mul sx).mono (b := 700) (by decide)).add (sb.mono (by decide))) sm (by omega) (sy.sub sx)⟩)
/-! ### beneath_rows -/

def sp_beneath_rows (K : PySem.W.Frag) (P : Addr) : Sp := RowSp lq_in_order K P cBen aBen
theorem ok_beneath_rows {P : Program} {w : World} {K : PySem.W.Frag} {mg : Str → Option Value} {base : Heap} (T : Top w K mg base) : FnOk P w K mg base CX0 7 T.f_beneath_rows T.fd_beneath_rows ["line", "numbers"] (sp_beneath_rows K T.p_in_order_) := by
  refine T.F_beneath_rows.ok sc_beneath_rows (fun vs H Q E h => ?_) (fun cdv A outer s H vs Q E hr h => ?_)
  · rcases h with ⟨p, pn, a, b, m, ns, rfl, _⟩ <;> rfl
  · obtain ⟨p, pn, a, b, m, ns, rfl, z, m0, sa, sb, sm, qn, sns, ⟨x, y, rfl, n0⟩, tab, q⟩ := h
    refine ⟨_, (pss_one (ps_ret (pe_lst (pa_cons (pe_tup (pa_cons (pe_call (ok_rests_beneath T) (hr.mono (by decide)) (by rfl) T.g_rests_beneath T.F_rests_beneath.kp T.b_rests_beneath .nil pass0 (pa_cons (pv 0) (pa_cons (pe_ix ix_list (pv 1) pe_int (fun _ _ => rfl)) (pa_cons (pe_ix ix_list (pv 1) pe_int (fun _ _ => rfl)) pa_nil)))) pa_nil)) pa_nil)))), ?_⟩
    try rw [st_beneath_rows]

    have zn : SqL K H pn [.int x, .int y] := qn
    have sx := sns x List.mem_cons_self
    have sy := sns y (List.mem_cons_of_mem _ List.mem_cons_self)
    have L : Ln K H p a b m := ⟨z, m0, sa.mono (by decide), sb.mono (by decide), sm.mono (by decide)⟩
    have lg := lg_ok m0 sm

    (repeat (first | (with_reducible first | refine r_v0 ?_ | refine r_v1 ?_ | refine r_C ?_ | refine r_op ?_ | refine r_ret ?_ | refine r_cons ?_ | refine r_nil ?_ | refine r_call ?_ | refine r_tup ?_ | refine r_lst ?_) | ((with_reducible refine' r_ixL ?zzs ?zze ?_); (case zzs => first | assumption | exact SqL.of (by assumption)); (case zze => exact rfl))))
    refine ⟨p, a, b, m, x, y, rfl, L, sb.mono (by decide), sm.mono (by decide), n0, sx.mono (by decide), fun H1 s1 => ?_⟩
    (repeat (with_reducible refine r_nil ?_))
    refine r_litT fun p2 G2 n2 s2 e2 => ?_
    (repeat (with_reducible refine r_nil ?_))
    refine r_lit fun p3 G3 n3 s3 e3 => ?_
    exact q p3 _ [[cntB a b m y x.toNat]] G3 (Ex.of ((s1.trans s2).trans s3)) (TabS.same tab ((s1.trans s2).trans s3)) (by intro x' y' e'; cases e'; rfl) e3 ⟨⟨p2, rfl, s3 _ _ e2⟩, trivial⟩ (show 1 ≤ 5000 by decide) (fun r hr => by rw [List.mem_singleton.mp hr]; exact ⟨(show 1 ≤ 5 by decide), fun z hz => by rw [List.mem_singleton.mp hz]; exact sz_cnt n0 sx⟩)
/-! ### within_rows -/

def sp_within_rows (K : PySem.W.Frag) (P : Addr) : Sp := RowSp lq_in_order K P cWit aWit
theorem ok_within_rows {P : Program} {w : World} {K : PySem.W.Frag} {mg : Str → Option Value} {base : Heap} (T : Top w K mg base) : FnOk P w K mg base CX0 5 T.f_within_rows T.fd_within_rows ["line", "numbers"] (sp_within_rows K T.p_in_order_) := by
  refine T.F_within_rows.ok sc_within_rows (fun vs H Q E h => ?_) (fun cdv A outer s H vs Q E hr h => ?_)
  · rcases h with ⟨p, pn, a, b, m, ns, rfl, _⟩ <;> rfl
  · obtain ⟨p, pn, a, b, m, ns, rfl, z, m0, sa, sb, sm, qn, sns, ⟨x, y, rfl, x0, xy, ym⟩, tab, q⟩ := h
    refine ⟨_, (pss_cons (ps_set (i := 2) sc_within_rows.nd rfl (Or.inl rfl) (pe_call (ok_first_within T) (hr.mono (by decide)) (by rfl) T.g_first_within T.F_first_within.kp T.b_first_within .nil pass0 (pa_cons (pv 0) (pa_cons (pe_ix ix_list (pv 1) pe_int (fun _ _ => rfl)) (pa_cons (pe_ix ix_list (pv 1) pe_int (fun _ _ => rfl)) pa_nil)))))
  (pss_cons (ps_if (pt_cmpR op_isN (pv 2) pe_non (nomark _)) (pss_one (ps_ret (pe_lst pa_nil))) pss_nil)
  (pss_one (ps_ret (pe_lst (pa_cons (pe_tup (pa_cons (pv 2) pa_nil)) pa_nil)))))), ?_⟩
    try rw [st_within_rows]

    have zn : SqL K H pn [.int x, .int y] := qn
    have sx := sns x List.mem_cons_self
    have sy := sns y (List.mem_cons_of_mem _ List.mem_cons_self)
    have L : Ln K H p a b m := ⟨z, m0, sa.mono (by decide), sb.mono (by decide), sm.mono (by decide)⟩
    have lg := lg_ok m0 sm
    (repeat (first | (with_reducible first | refine r_v0 ?_ | refine r_v1 ?_ | refine r_seq ?_ | refine r_asg ?_ | refine r_C ?_ | refine r_op ?_ | refine r_cons ?_ | refine r_nil ?_ | refine r_call ?_) | ((with_reducible refine' r_ixL ?zzs ?zze ?_); (case zzs => first | assumption | exact SqL.of (by assumption)); (case zze => exact rfl))))
    refine ⟨p, a, b, m, x, y, rfl, z, m0, sm.mono (by decide), x0, xy, ym, fun r H1 s1 hf => ?_⟩
    cases r with
    | none =>
      rw [show oV none = V.non from rfl]
      (repeat (with_reducible first | refine r_v2 ?_ | refine r_gn2 ?_ | refine r_seq ?_ | refine r_C ?_ | refine r_op ?_ | refine r_if ?_ | refine r_test ?_ | refine r_bl ?_ | refine r_notN ?_))
      refine r_ite (fun _ => ?_) (fun h => absurd rfl h)
      (repeat (with_reducible first | refine r_ret ?_ | refine r_nil ?_ | refine r_lst ?_))
      refine r_lit fun p3 G3 n3 s3 e3 => ?_
      exact q p3 _ [] G3 (Ex.of (s1.trans s3)) (TabS.same tab (s1.trans s3)) (by intro x' y' e'; cases e'; exact ⟨none, hf, rfl⟩) e3 trivial (Nat.zero_le _) (fun r' hr => nomatch hr)
    | some f =>
      rw [show oV (some f) = V.int f from rfl]
      (repeat (with_reducible first | refine r_v2 ?_ | refine r_gn2 ?_ | refine r_seq ?_ | refine r_C ?_ | refine r_op ?_ | refine r_if ?_ | refine r_test ?_ | refine r_bl ?_ | refine r_notN ?_))
      refine r_ite (fun h => nomatch h) (fun _ => ?_)
      (repeat (with_reducible first | refine r_v2 ?_ | refine r_next ?_ | refine r_ret ?_ | refine r_cons ?_ | refine r_nil ?_ | refine r_tup ?_ | refine r_lst ?_))
      refine r_litT fun p2 G2 n2 s2 e2 => ?_
      (repeat (with_reducible refine r_nil ?_))
      refine r_lit fun p3 G3 n3 s3 e3 => ?_
      exact q p3 _ [[f]] G3 (Ex.of ((s1.trans s2).trans s3)) (TabS.same tab ((s1.trans s2).trans s3)) (by intro x' y' e'; cases e'; exact ⟨some f, hf, rfl⟩) e3 ⟨⟨p2, rfl, s3 _ _ e2⟩, trivial⟩ (show 1 ≤ 5000 by decide) (fun r' hr => by rw [List.mem_singleton.mp hr]; exact ⟨(show 1 ≤ 5 by decide), fun z' hz => by rw [List.mem_singleton.mp hz]; exact sz_first m0 sm hf⟩)
/-! ### order_rows -/

def sp_order_rows (K : PySem.W.Frag) (P : Addr) : Sp := RowSp lq_in_order K P cOrd aOrd
theorem ok_order_rows {P : Program} {w : World} {K : PySem.W.Frag} {mg : Str → Option Value} {base : Heap} (T : Top w K mg base) : FnOk P w K mg base CX0 10 T.f_order_rows T.fd_order_rows ["line", "numbers"] (sp_order_rows K T.p_in_order_) := by
  refine T.F_order_rows.ok sc_order_rows (fun vs H Q E h => ?_) (fun cdv A outer s H vs Q E hr h => ?_)
  · rcases h with ⟨p, pn, a, b, m, ns, rfl, _⟩ <;> rfl
  · obtain ⟨p, pn, a, b, m, ns, rfl, z, m0, sa, sb, sm, qn, sns, ⟨x, y, rfl, y0, yx⟩, tab, q⟩ := h
    refine ⟨_, (pss_one (ps_ret (pe_lst (pa_cons (pe_call (ok_in_order T) (hr.mono (by decide)) (by rfl) T.g_in_order T.F_in_order.kp T.b_in_order .nil pass0 (pa_cons (pv 0) (pa_cons (pe_ix ix_list (pv 1) pe_int (fun _ _ => rfl)) (pa_cons (pe_ix ix_list (pv 1) pe_int (fun _ _ => rfl)) pa_nil)))) pa_nil)))), ?_⟩
    try rw [st_order_rows]

    have zn : SqL K H pn [.int x, .int y] := qn
    have sx := sns x List.mem_cons_self
    have sy := sns y (List.mem_cons_of_mem _ List.mem_cons_self)
    have L : Ln K H p a b m := ⟨z, m0, sa.mono (by decide), sb.mono (by decide), sm.mono (by decide)⟩
    have lg := lg_ok m0 sm
    obtain ⟨n, rfl⟩ : ∃ n : Nat, x = (n : Int) := ⟨x.toNat, by omega⟩
    (repeat (first | (with_reducible first | refine r_v0 ?_ | refine r_v1 ?_ | refine r_C ?_ | refine r_op ?_ | refine r_ret ?_ | refine r_cons ?_ | refine r_nil ?_ | refine r_call ?_ | refine r_lst ?_) | ((with_reducible refine' r_ixL ?zzs ?zze ?_); (case zzs => first | assumption | exact SqL.of (by assumption)); (case zze => exact rfl))))
    refine ⟨p, a, b, m, n, y, rfl, L, sb.mono (by decide), sm.mono (by decide), sx.mono (by decide), y0, yx, tab, fun t r xx H1 x1 tab1 e1 ho => ?_⟩
    (repeat (with_reducible refine r_nil ?_))
    refine r_lit fun p3 G3 n3 s3 e3 => ?_
    exact q p3 _ [[r, xx]] G3 (Ex.trans x1 (Ex.of s3)) (TabS.same tab1 s3) (by intro n' x' e'; cases e'; exact ⟨r, xx, ho, rfl⟩) e3 ⟨⟨t, rfl, s3 _ _ e1⟩, trivial⟩ (show 1 ≤ 5000 by decide) (fun r' hr => by rw [List.mem_singleton.mp hr]; exact ⟨(show 2 ≤ 5 by decide), sz_ord m0 sm sx ho⟩)
/-! ### paper_rows -/

def sp_paper_rows (K : PySem.W.Frag) (P : Addr) : Sp := RowSp lq_in_order K P cCnt aPaper
theorem ok_paper_rows {P : Program} {w : World} {K : PySem.W.Frag} {mg : Str → Option Value} {base : Heap} (T : Top w K mg base) : FnOk P w K mg base CX0 7 T.f_paper_rows T.fd_paper_rows ["line", "numbers"] (sp_paper_rows K T.p_in_order_) := by
  refine T.F_paper_rows.ok sc_paper_rows (fun vs H Q E h => ?_) (fun cdv A outer s H vs Q E hr h => ?_)
  · rcases h with ⟨p, pn, a, b, m, ns, rfl, _⟩ <;> rfl
  · obtain ⟨p, pn, a, b, m, ns, rfl, z, m0, sa, sb, sm, qn, sns, ⟨n, rfl, n0⟩, tab, q⟩ := h
    refine ⟨_, (pss_one (ps_ret (pe_lc (own := [("n", 2), ("a", 4), ("b", 5), ("m", 6), ("total", 3)]) (g := gTup K 3 (gCons (gName 2) (gCons (gTup K 3 (gCons (gName 4) (gCons (gName 5) (gCons (gName 6) gNil)))) (gCons (gName 3) gNil)))) (tt := tYes) (by rfl) sc_paper_rows.nd (pi_tup (pe_call (ok_sum_paper T) (hr.mono (by decide)) (by rfl) T.g_sum_paper T.F_sum_paper.kp T.b_sum_paper .nil pass0 (pa_cons (pv 0) (pa_cons (pe_ix ix_list (pv 1) pe_int (fun _ _ => rfl)) pa_nil)))) (blkOk_by (own := [("n", 2), ("a", 4), ("b", 5), ("m", 6), ("total", 3)]) (N := N_paper_rows) (sc := defScope s_paper_rows) (by decide +kernel)) (fun _ _ _ _ _ => (pg_tup rfl (pgs_cons (pg_name (i := 2) sc_paper_rows.nd rfl (Or.inl rfl)) (pgs_cons (pg_tup rfl (pgs_cons (pg_name (i := 4) sc_paper_rows.nd rfl (Or.inl rfl)) (pgs_cons (pg_name (i := 5) sc_paper_rows.nd rfl (Or.inl rfl)) (pgs_cons (pg_name (i := 6) sc_paper_rows.nd rfl (Or.inl rfl)) pgs_nil)))) (pgs_cons (pg_name (i := 3) sc_paper_rows.nd rfl (Or.inl rfl)) pgs_nil))))) (fun _ _ _ _ _ => pts_nil) (fun _ _ _ _ _ => (pe_tup (pa_cons (pv 2) (pa_cons (pv 4) (pa_cons (pv 5) (pa_cons (pv 6) (pa_cons (pv 3) pa_nil)))))))))), ?_⟩
    try rw [st_paper_rows]

    have zn : SqL K H pn [.int n] := qn
    have sn := sns n List.mem_cons_self
    have L : Ln K H p a b m := ⟨z, m0, sa.mono (by decide), sb.mono (by decide), sm.mono (by decide)⟩
    obtain ⟨l, hPa⟩ := Pa.of L n0 (sn.mono (by decide))
    (repeat (first | (with_reducible first | refine r_v0 ?_ | refine r_v1 ?_ | refine r_C ?_ | refine r_op ?_ | refine r_ret ?_ | refine r_cons ?_ | refine r_nil ?_ | refine r_call ?_ | refine r_iTup ?_ | refine r_lc ?_) | ((with_reducible refine' r_ixL ?zzs ?zze ?_); (case zzs => first | assumption | exact SqL.of (by assumption)); (case zze => exact rfl))))
    refine ⟨p, a, b, m, n, l, rfl, L, hPa, fun t vs H1 s1 e1 R1 => ?_⟩
    have few := hPa.few2
    have lv : vs.length = l.length := by rw [R1.len, tots_len]
    skip
    refine ⟨t, rfl, ⟨_, .inl (.inl e1)⟩, fun D nD => ?_⟩
    refine lc_ok_tup (xs := vs) (fun j G => Same H1 G ∧ ∃ us : List V, G D = some (.lst us) ∧ RowsI G us (((tots l).take j).map row5)) ⟨same_upd nD, [], upd_same, trivial⟩ (fun j G _ z => .inl (.inl (z.1 _ _ e1))) ?_ ?_
    · rintro j v G hv ⟨sG, us, eG, rG⟩
      obtain ⟨u, hu, pr, pl, rfl, er, zl⟩ := (R1.more (Tk.of sG)).get hv
      have zr : SqT K G pr [.int u.1.1, .ref pl, .int u.2] := .inl (.inl er)
      have hj : j < (tots l).length := (List.getElem?_eq_some_iff.mp hu).1
      rw [tots_len] at hj
      (repeat (first | (with_reducible first | refine r_gcons ?_ | refine r_gnil ?_) | ((with_reducible refine' r_gname ?zze ?_); (case zze => exact rfl)) | ((with_reducible refine' r_gtup ?zzs ?zzl ?_); (case zzs => assumption); (case zzl => exact rfl))))
      refine ⟨rfl, ?_⟩
      (repeat (first | (with_reducible first | refine r_cons ?_ | refine r_nil ?_ | refine r_tup ?_ | refine iteT ?_ | refine r_yes ?_) | ((with_reducible refine' r_var ?zze ?_); (case zze => exact rfl))))
      refine r_litT fun p2 G2 n2 s2 e2 => ?_
      have lus : us.length < 10000 := by
        have := rG.len
        rw [List.length_map, List.length_take] at this
        omega
      refine acc_mkL (s2 _ _ eG) lus fun G3 e3 b3 => ?_
      refine ⟨same_but (sG.trans s2) nD b3, _, e3, ?_⟩
      rw [List.take_add_one, hu, List.map_append]
      have nt : ∀ {p : Addr} {xs : List V}, G2 p = some (.tup xs) → G3 p = some (.tup xs) := fun {p xs} h => b3 _ _ (fun z => by
        rw [z, s2 _ _ eG] at h
        cases h) h
      exact RowsI.app (nt e2) (rG.moreT fun _ _ h => nt (s2 _ _ h))
    · rintro G ⟨sG, us, eG, rG⟩
      rw [R1.len, List.take_length] at rG
      have S := s1.trans sG
      refine q D us _ G (Ex.of S) (TabS.same tab S) (by intro n' e'; cases e'; exact ⟨l, hPa, rfl⟩) eG rG (by rw [List.length_map, tots_len]; exact few) (fun r hr => ?_)
      obtain ⟨u, hu, rfl⟩ := List.mem_map.mp hr
      exact ⟨(show 5 ≤ 5 by decide), pa_sizes hPa sa sb sm sn u hu⟩
/-! ### check_name -/

def sp_check_name (K : PySem.W.Frag) : Sp := fun vs H Q _ => ∃ (w : Str), vs = [.str w] ∧ NameT w ∧ Q .non H
theorem ok_check_name {P : Program} {w : World} {K : PySem.W.Frag} {mg : Str → Option Value} {base : Heap} (T : Top w K mg base) : FnOk P w K mg base CX0 1 T.f_check_name T.fd_check_name ["word"] (sp_check_name K) := by
  refine T.F_check_name.ok sc_check_name (fun vs H Q E h => ?_) (fun cdv A outer s H vs Q E hr h => ?_)
  · rcases h with ⟨w, rfl, _⟩ <;> rfl
  · obtain ⟨w, rfl, ⟨h1, h2, h3, h4⟩, q⟩ := h
    refine ⟨_, (pss_cons (ps_set (i := 1) sc_check_name.nd rfl (Or.inl rfl) (pe_and (pe_m0 PySem.F.slot_str_isascii PySem.F.type_str_isascii mt_isascii (pv 0)) (pe_and (pe_m0 PySem.F.slot_str_isalpha PySem.F.type_str_isalpha mt_isalpha (pv 0)) (pe_one (pe_m0 PySem.F.slot_str_islower PySem.F.type_str_islower mt_islower (pv 0))))))
  (pss_one (ps_if (PW.pt (pw_or (pt_not (pt_val (pv 1))) (pw_or1 (pt_cmpR op_gt (pe_callB call_len_str (by rfl) T.n_len PySem.boot_len (pa_cons (pv 0) pa_nil)) (pe_glob (by rfl) T.g_MOST_LETTERS T.r_MOST_LETTERS) (nomark _))))) (pss_one ps_never) pss_nil))), ?_⟩
    try rw [st_check_name]

    have hl : w.length ≤ sizeLine := Nat.le_trans h1 (by decide)
    (repeat (with_reducible first | refine r_v0 ?_ | refine r_seq ?_ | refine r_asg ?_ | refine r_bl ?_ | refine r_andV ?_ | refine r_m0 ?_ | refine r_isStr ?_ | refine r_s1 ?_))
    rw [h2]
    (repeat (with_reducible first | refine r_v0 ?_ | refine r_bl ?_ | refine r_andV ?_ | refine iteT ?_ | refine r_m0 ?_ | refine r_isStr ?_ | refine r_s1 ?_))
    rw [h3]
    (repeat (with_reducible first | refine r_v0 ?_ | refine r_v1 ?_ | refine r_gn1 ?_ | refine r_if ?_ | refine r_B ?_ | refine r_bl ?_ | refine r_not ?_ | refine r_or ?_ | refine iteT ?_ | refine r_m0 ?_ | refine r_isStr ?_ | refine r_s1 ?_))
    rw [h4]
    (repeat (with_reducible first | refine r_v0 ?_ | refine r_op ?_ | refine r_test ?_ | refine r_cons ?_ | refine r_nil ?_ | refine r_CB ?_ | refine iteNT ?_))
    refine ⟨_, rfl, hl, ?_⟩
    (repeat (with_reducible first | refine r_C ?_ | refine r_I0 ?_ | refine r_bl ?_))
    refine r_ite (fun h => absurd h (by omega)) (fun _ => ?_)
    (repeat (with_reducible refine r_next ?_))
    exact q

theorem num_bare {z : Int} (h : z.natAbs < 10 ^ 60) : (Txt.removeprefix (num z) "-").length ≤ 60 := by
  rw [len_tl, tl_removeprefix, tl_numI]
  have l := numL_len (k := 60) (by decide) h
  split
  · show (numL z.natAbs).length ≤ 60
    exact l
  · rw [figs_numL]
    exact l
/-! ### read_number -/

def sp_read_number (K : PySem.W.Frag) : Sp := fun vs H Q _ => ∃ (z : Int), vs = [.str (num z)] ∧ z.natAbs < 10 ^ 60 ∧ Q (.int z) H
theorem ok_read_number {P : Program} {w : World} {K : PySem.W.Frag} {mg : Str → Option Value} {base : Heap} (T : Top w K mg base) : FnOk P w K mg base CX0 2 T.f_read_number T.fd_read_number ["word"] (sp_read_number K) := by
  refine T.F_read_number.ok sc_read_number (fun vs H Q E h => ?_) (fun cdv A outer s H vs Q E hr h => ?_)
  · rcases h with ⟨z, rfl, _⟩ <;> rfl
  · obtain ⟨z, rfl, hz, q⟩ := h
    refine ⟨_, (pss_cons (ps_if (PW.pt (pw_or (pt_not (pt_val (pe_call (ok_is_number T) (hr.mono (by decide)) (by rfl) T.g_is_number T.F_is_number.kp T.b_is_number .nil pass0 (pa_cons (pv 0) pa_nil)))) (pw_or1 (pt_cmpR op_gt (pe_callB call_len_str (by rfl) T.n_len PySem.boot_len (pa_cons (pe_m1 PySem.F.slot_str_removeprefix PySem.F.type_str_removeprefix mt_removeprefix (pv 0) pe_str) pa_nil)) (pe_glob (by rfl) T.g_MOST_FIGURES T.r_MOST_FIGURES) (nomark _))))) (pss_one ps_never) pss_nil)
  (pss_one (ps_ret (pe_callTy call_int_str (by rfl) T.n_int (by decide +kernel) (pa_cons (pv 0) pa_nil))))), ?_⟩
    try rw [st_read_number]

    have hl := num_len (i := z) (k := 60) (by decide) hz
    have hb := num_bare hz
    (repeat (with_reducible first | refine r_v0 ?_ | refine r_seq ?_ | refine r_if ?_ | refine r_B ?_ | refine r_not ?_ | refine r_or ?_ | refine r_cons ?_ | refine r_nil ?_ | refine r_call ?_))
    refine ⟨num z, rfl, by omega, ?_⟩
    rw [isNum_num]
    (repeat (with_reducible first | refine r_v0 ?_ | refine r_C ?_ | refine r_op ?_ | refine r_test ?_ | refine r_bl ?_ | refine r_cons ?_ | refine r_CB ?_ | refine iteNT ?_ | refine r_m1 ?_ | refine r_isStr ?_ | refine r_s2 ?_))
    refine ⟨Nat.le_trans hl (by decide), ?_⟩
    (repeat (with_reducible refine r_nil ?_))
    refine ⟨_, rfl, Nat.le_trans hb (by decide), ?_⟩
    (repeat (with_reducible first | refine r_C ?_ | refine r_I0 ?_ | refine r_bl ?_))
    refine r_ite (fun h => absurd h (by omega)) (fun _ => ?_)
    (repeat (with_reducible first | refine r_v0 ?_ | refine r_next ?_ | refine r_ret ?_ | refine r_cons ?_ | refine r_nil ?_ | refine r_CB ?_))
    refine ⟨_, _, rfl, num_read (by omega), by omega, ?_⟩
    exact q
/-! ### read_count -/

def sp_read_count (K : PySem.W.Frag) : Sp := fun vs H Q _ => ∃ (z : Int), vs = [.str (num z)] ∧ z.natAbs < 10 ^ 60 ∧ 0 ≤ z ∧ Q (.int z) H
theorem ok_read_count {P : Program} {w : World} {K : PySem.W.Frag} {mg : Str → Option Value} {base : Heap} (T : Top w K mg base) : FnOk P w K mg base CX0 3 T.f_read_count T.fd_read_count ["word"] (sp_read_count K) := by
  refine T.F_read_count.ok sc_read_count (fun vs H Q E h => ?_) (fun cdv A outer s H vs Q E hr h => ?_)
  · rcases h with ⟨z, rfl, _⟩ <;> rfl
  · obtain ⟨z, rfl, hz, z0, q⟩ := h
    refine ⟨_, (pss_cons (ps_set (i := 1) sc_read_count.nd rfl (Or.inl rfl) (pe_call (ok_read_number T) (hr.mono (by decide)) (by rfl) T.g_read_number T.F_read_number.kp T.b_read_number .nil pass0 (pa_cons (pv 0) pa_nil)))
  (pss_cons (ps_if (pt_cmpR op_lt (pv 1) pe_int (nomark _)) (pss_one ps_never) pss_nil)
  (pss_one (ps_ret (pv 1))))), ?_⟩
    try rw [st_read_count]

    (repeat (with_reducible first | refine r_v0 ?_ | refine r_seq ?_ | refine r_asg ?_ | refine r_cons ?_ | refine r_nil ?_ | refine r_call ?_))
    refine ⟨z, rfl, hz, ?_⟩
    (repeat (with_reducible first | refine r_v1 ?_ | refine r_gn1 ?_ | refine r_seq ?_ | refine r_C ?_ | refine r_op ?_ | refine r_I0 ?_ | refine r_if ?_ | refine r_test ?_ | refine r_bl ?_))
    refine r_ite (fun h => absurd h (by omega)) (fun _ => ?_)
    (repeat (with_reducible first | refine r_v1 ?_ | refine r_next ?_ | refine r_ret ?_))
    exact q
/-! ### read_numbers -/

def sp_read_numbers (K : PySem.W.Frag) : Sp := fun vs H Q _ => ∃ (p : Addr) (ns : List Int) (f : Str), vs = [.ref p, .str f] ∧ SqL K H p ((ns.map num).map V.str) ∧ Fits ns f ∧ ∀ (t : Addr) H', Same H H' → H' t = some (.lst (ns.map V.int)) → Q (.ref t) H'
theorem ok_read_numbers {P : Program} {w : World} {K : PySem.W.Frag} {mg : Str → Option Value} {base : Heap} (T : Top w K mg base) : FnOk P w K mg base CX0 4 T.f_read_numbers T.fd_read_numbers ["words", "form"] (sp_read_numbers K) := by
  refine T.F_read_numbers.ok sc_read_numbers (fun vs H Q E h => ?_) (fun cdv A outer s H vs Q E hr h => ?_)
  · rcases h with ⟨p, ns, f, rfl, _⟩ <;> rfl
  · obtain ⟨p, ns, f, rfl, sq, ⟨hlen, h4, hsz, hn⟩, q⟩ := h
    refine ⟨_, (pss_cons (ps_if (pt_cmpR op_ne (pe_callB call_len_seq (by rfl) T.n_len PySem.boot_len (pa_cons (pv 0) pa_nil)) (pe_callB call_len_str (by rfl) T.n_len PySem.boot_len (pa_cons (pv 1) pa_nil)) (nomark _)) (pss_one ps_never) pss_nil)
  (pss_one (ps_ret (pe_lc (own := [("word", 2), ("kind", 3)]) (g := gTup K 2 (gCons (gName 2) (gCons (gName 3) gNil))) (tt := tYes) (by rfl) sc_read_numbers.nd (pi_zipLS (by rfl) T.n_zip (pa_cons (pv 0) (pa_cons (pv 1) pa_nil))) (blkOk_by (own := [("word", 2), ("kind", 3)]) (N := N_read_numbers) (sc := defScope s_read_numbers) (by decide +kernel)) (fun _ _ _ _ _ => (pg_tup rfl (pgs_cons (pg_name (i := 2) sc_read_numbers.nd rfl (Or.inl rfl)) (pgs_cons (pg_name (i := 3) sc_read_numbers.nd rfl (Or.inl rfl)) pgs_nil)))) (fun _ _ _ _ _ => pts_nil) (fun _ _ _ _ _ => (pe_ifExp (pt_cmpR op_eq (pv 3) pe_str (nomark _)) (pe_call (ok_read_count T) (hr.mono (by decide)) (by rfl) T.g_read_count T.F_read_count.kp T.b_read_count .nil pass0 (pa_cons (pv 2) pa_nil)) (pe_call (ok_read_number T) (hr.mono (by decide)) (by rfl) T.g_read_number T.F_read_number.kp T.b_read_number .nil pass0 (pa_cons (pv 2) pa_nil)))))))), ?_⟩
    try rw [st_read_numbers]

    have hf : f.length ≤ sizeLine := by
      rw [← hlen]
      exact Nat.le_trans h4 (by decide)
    have hl2 : ((ns.map num).map V.str).length = f.cps.size := by
      rw [List.length_map, List.length_map, hlen]
      rfl
    (repeat (with_reducible first | refine r_v0 ?_ | refine r_seq ?_ | refine r_op ?_ | refine r_if ?_ | refine r_test ?_ | refine r_cons ?_ | refine r_nil ?_ | refine r_CB ?_))
    refine r_lenL sq ?_
    rw [List.length_map, List.length_map]
    (repeat (with_reducible first | refine r_v1 ?_ | refine r_cons ?_ | refine r_nil ?_ | refine r_CB ?_))
    refine ⟨_, rfl, hf, ?_⟩
    (repeat (with_reducible first | refine r_bl ?_ | refine r_neI ?_))
    refine r_iteN (fun h => absurd (by rw [hlen]) h) (fun _ => ?_)
    (repeat (with_reducible first | refine r_v0 ?_ | refine r_v1 ?_ | refine r_next ?_ | refine r_ret ?_ | refine r_cons ?_ | refine r_nil ?_ | refine r_lc ?_ | refine r_zipS ?_))
    refine ⟨p, _, f, rfl, sq, fun D nD => ?_⟩
    refine lc_ok_zipLS (xs := (ns.map num).map V.str) hl2 (fun i G => Same H G ∧ G D = some (.lst ((ns.take i).map V.int))) ⟨same_upd nD, upd_same⟩ (fun i G z => Same.seq z.1 sq) ?_ ?_
    · rintro i y c t G hy hc ⟨sG, eG⟩ nt
      rw [List.getElem?_map, List.getElem?_map] at hy
      obtain ⟨z, hz, rfl⟩ : ∃ z, ns[i]? = some z ∧ V.str (num z) = y := by
        cases h : ns[i]? with
        | none => rw [h] at hy; cases hy
        | some u => rw [h] at hy; exact ⟨u, rfl, Option.some.inj hy⟩
      have s2 := same_upd (o := .tup [V.str (num z), V.str ⟨#[c]⟩]) nt
      have zt : SqT K (upd G t (.tup [V.str (num z), V.str ⟨#[c]⟩])) t [V.str (num z), V.str ⟨#[c]⟩] := .inl (.inl upd_same)
      generalize upd G t (.tup [V.str (num z), V.str ⟨#[c]⟩]) = G2 at *
      have hi : i < ns.length := (List.getElem?_eq_some_iff.mp hz).1
      have hzb := hsz z (List.mem_of_getElem? hz)
      have fin : Acc D (fun G => Same H G ∧ G D = some (.lst ((ns.take (i + 1)).map V.int))) (.int z) G2 := by
        refine acc_mk (s2 _ _ eG) (by rw [List.length_map, List.length_take]; omega) fun G3 e3 b3 => ?_
        refine ⟨same_but (sG.trans s2) nD b3, ?_⟩
        rw [e3, List.take_add_one, hz, List.map_append]
        rfl
      (repeat (first | (with_reducible first | refine r_gcons ?_ | refine r_gnil ?_) | ((with_reducible refine' r_gname ?zze ?_); (case zze => exact rfl)) | ((with_reducible refine' r_gtup ?zzs ?zzl ?_); (case zzs => assumption); (case zzl => exact rfl))))
      refine ⟨rfl, ?_⟩
      (repeat (first | (with_reducible first | refine r_C ?_ | refine r_op ?_ | refine r_test ?_ | refine r_bl ?_ | refine iteT ?_ | refine r_yes ?_ | refine r_eqStr ?_ | refine r_ifE ?_) | ((with_reducible refine' r_var ?zze ?_); (case zze => exact rfl))))
      by_cases hN : (⟨#[c]⟩ : Str) = "N"
      · rw [decide_eq_true (show V.str ⟨#[c]⟩ = V.str "N" by rw [hN])]
        (repeat (first | (with_reducible first | refine r_cons ?_ | refine r_nil ?_ | refine r_call ?_ | refine iteT ?_) | ((with_reducible refine' r_var ?zze ?_); (case zze => exact rfl))))
        refine ⟨z, rfl, hzb, hn i z c hz hc hN, ?_⟩
        exact fin
      · rw [decide_eq_false (show ¬ V.str ⟨#[c]⟩ = V.str "N" from fun e => hN (V.str.inj e))]
        (repeat (first | (with_reducible first | refine r_cons ?_ | refine r_nil ?_ | refine r_call ?_ | refine iteF ?_) | ((with_reducible refine' r_var ?zze ?_); (case zze => exact rfl))))
        refine ⟨z, rfl, hzb, ?_⟩
        exact fin
    · rintro G ⟨sG, eG⟩
      rw [List.length_map, List.length_map, List.take_length] at eG
      skip
      exact q D G sG eG
/-! ### parted_names -/

def sp_parted_names (K : PySem.W.Frag) : Sp := fun vs H Q _ => ∃ (p : Addr) (n1 n2 : List Str), vs = [.ref p] ∧ SqL K H p ((n1 ++ (";" : Str) :: n2).map V.str) ∧ 1 ≤ n1.length ∧ n1.length ≤ 4 ∧ 1 ≤ n2.length ∧ n2.length ≤ 4 ∧ (";" : Str) ∉ n1 ∧ (";" : Str) ∉ n2 ∧
  ∀ (t p1 p2 : Addr) H', Same H H' → H' t = some (.tup [.ref p1, .ref p2]) → H' p1 = some (.lst (n1.map V.str)) → H' p2 = some (.lst (n2.map V.str)) → Q (.ref t) H'
theorem ok_parted_names {P : Program} {w : World} {K : PySem.W.Frag} {mg : Str → Option Value} {base : Heap} (T : Top w K mg base) : FnOk P w K mg base CX0 1 T.f_parted_names T.fd_parted_names ["words"] (sp_parted_names K) := by
  refine T.F_parted_names.ok sc_parted_names (fun vs H Q E h => ?_) (fun cdv A outer s H vs Q E hr h => ?_)
  · rcases h with ⟨p, n1, n2, rfl, _⟩ <;> rfl
  · obtain ⟨p, n1, n2, rfl, sq, a1, a4, b1, b4, c1, c2, q⟩ := h
    refine ⟨_, (pss_cons (ps_if (pt_cmpR op_ne (pe_bm PySem.F.plainAttrs_list PySem.F.slot_list_count PySem.F.type_list_count mt_countS (pv 0) (pa_cons pe_str pa_nil)) pe_int (nomark _)) (pss_one ps_never) pss_nil)
  (pss_cons (ps_set (i := 1) sc_parted_names.nd rfl (Or.inl rfl) (pe_bm PySem.F.plainAttrs_list PySem.F.slot_list_index PySem.F.type_list_index mt_index (pv 0) (pa_cons pe_str pa_nil)))
  (pss_cons (ps_set (i := 2) sc_parted_names.nd rfl (Or.inl rfl) (pe_slice sl_list (pv 0) po_none (po_some (pv 1))))
  (pss_cons (ps_set (i := 3) sc_parted_names.nd rfl (Or.inl rfl) (pe_slice sl_list (pv 0) (po_some (pe_op op_add (pv 1) pe_int)) po_none))
  (pss_cons (ps_if (pt_not (PW.pt (pw_and (pt_chain op_le op_le pe_int (pe_callB call_len_seq (by rfl) T.n_len PySem.boot_len (pa_cons (pv 2) pa_nil)) (pe_glob (by rfl) T.g_MOST_NAMES T.r_MOST_NAMES)) (pw_and1 (pt_chain op_le op_le pe_int (pe_callB call_len_seq (by rfl) T.n_len PySem.boot_len (pa_cons (pv 3) pa_nil)) (pe_glob (by rfl) T.g_MOST_NAMES T.r_MOST_NAMES)))))) (pss_one ps_never) pss_nil)
  (pss_one (ps_ret (pe_tup (pa_cons (pv 2) (pa_cons (pv 3) pa_nil)))))))))), ?_⟩
    try rw [st_parted_names]

    have cnt : (n1 ++ (";" : Str) :: n2).count (";" : Str) = 1 := by
      rw [List.count_append, List.count_cons_self, List.count_eq_zero.mpr c1, List.count_eq_zero.mpr c2]
    have ln : ((n1 ++ (";" : Str) :: n2).map V.str).length = n1.length + (n2.length + 1) := by rw [List.length_map, List.length_append]; rfl
    (repeat (with_reducible first | refine r_v0 ?_ | refine r_seq ?_ | refine r_op ?_ | refine r_if ?_ | refine r_test ?_ | refine r_bm ?_))
    refine ⟨ty_seqL sq, ?_⟩
    (repeat (with_reducible first | refine r_C ?_ | refine r_cons ?_ | refine r_nil ?_))
    refine ⟨p, _, ";", rfl, rfl, sq, ?_⟩
    rw [cnt]
    (repeat (with_reducible first | refine r_C ?_ | refine r_bl ?_ | refine r_neI ?_))
    refine r_iteN (fun h => absurd rfl h) (fun _ => ?_)
    (repeat (with_reducible first | refine r_v0 ?_ | refine r_seq ?_ | refine r_next ?_ | refine r_asg ?_ | refine r_bm ?_))
    refine ⟨ty_seqL sq, ?_⟩
    (repeat (with_reducible first | refine r_C ?_ | refine r_cons ?_ | refine r_nil ?_))
    refine ⟨p, _, .str ";", n1.length, .str ";", rfl, rfl, sq, rfl, flat_strs _, ?_, rfl, fun m z' hm hz => ?_, ?_⟩
    · rw [List.getElem?_map, List.getElem?_append_right (Nat.le_refl _), Nat.sub_self]
      rfl
    · rw [List.getElem?_map, List.getElem?_append_left hm] at hz
      have hmem : ∃ u ∈ n1, V.str u = z' := by
        rw [List.getElem?_eq_getElem hm] at hz
        exact ⟨n1[m], List.getElem_mem hm, Option.some.inj hz⟩
      obtain ⟨u, hu, rfl⟩ := hmem
      have ne : ¬ u = ";" := fun e => c1 (e ▸ hu)
      simp [eqV, ne]
    (repeat (with_reducible first | refine r_v0 ?_ | refine r_v1 ?_ | refine r_gn1 ?_ | refine r_seq ?_ | refine r_asg ?_ | refine r_sl ?_ | refine r_nopart ?_ | refine r_part ?_ | refine r_parti ?_))
    refine r_slL sq fun p1 H1 n1' s1 e1 => ?_
    rw [cut_toD (by omega), ← List.map_take, List.take_left] at e1
    (repeat (with_reducible first | refine r_v0 ?_ | refine r_v1 ?_ | refine r_gn2 ?_ | refine r_seq ?_ | refine r_asg ?_ | refine r_C ?_ | refine r_op ?_ | refine r_I0 ?_ | refine r_sl ?_ | refine r_nopart ?_ | refine r_part ?_ | refine r_parti ?_))
    refine r_slL (Same.seq s1 sq) fun p2 H2 n2' s2 e2 => ?_
    rw [show ((n1.length : Nat) : Int) + 1 = ((n1.length + 1 : Nat) : Int) by omega, cut_dropD (by omega), ← List.map_drop, show (n1 ++ (";" : Str) :: n2).drop (n1.length + 1) = n2 by rw [List.drop_append, List.drop_of_length_le (by omega)]; simp] at e2
    have e12 := s2 _ _ e1
    (repeat (with_reducible first | refine r_v2 ?_ | refine r_gn3 ?_ | refine r_seq ?_ | refine r_C ?_ | refine r_if ?_ | refine r_test ?_ | refine r_not ?_ | refine r_and ?_ | refine r_cons ?_ | refine r_nil ?_ | refine r_CB ?_ | refine r_chain ?_))
    refine r_lenL (.inl (.inl e12)) ?_
    rw [List.length_map]
    (repeat (with_reducible first | refine r_I0 ?_ | refine r_bl ?_))
    refine r_ite (fun _ => ?_) (fun h => absurd (show (1 : Int) ≤ (n1.length : Int) by omega) h)
    (repeat (with_reducible first | refine r_C ?_ | refine r_I0 ?_ | refine r_bl ?_))
    refine r_ite (fun _ => ?_) (fun h => absurd (show (n1.length : Int) ≤ 4 by omega) h)
    (repeat (with_reducible first | refine r_v3 ?_ | refine r_C ?_ | refine r_test ?_ | refine r_cons ?_ | refine r_nil ?_ | refine r_CB ?_ | refine r_chain ?_))
    refine r_lenL (.inl (.inl e2)) ?_
    rw [List.length_map]
    (repeat (with_reducible first | refine r_I0 ?_ | refine r_bl ?_))
    refine r_ite (fun _ => ?_) (fun h => absurd (show (1 : Int) ≤ (n2.length : Int) by omega) h)
    (repeat (with_reducible first | refine r_C ?_ | refine r_I0 ?_ | refine r_bl ?_))
    refine r_iteN (fun h => absurd (show (n2.length : Int) ≤ 4 by omega) h) (fun _ => ?_)
    (repeat (with_reducible first | refine r_v2 ?_ | refine r_v3 ?_ | refine r_next ?_ | refine r_ret ?_ | refine r_cons ?_ | refine r_nil ?_ | refine r_tup ?_))
    refine r_litT fun p3 H3 n3 s3 e3 => ?_
    exact q p3 p1 p2 H3 ((s1.trans s2).trans s3) e3 (s3 _ _ e12) (s3 _ _ e2)

abbrev inSc_shown : Scope := match (defBody s_shown).getLast? with
  | some (.Return (some (.ListComp _ _ sc _)) _) => sc
  | _ => defScope s_shown
def rowT (r : List Int) : Str := Txt.join " " (r.map num)
/-! ### shown -/

def sp_shown (K : PySem.W.Frag) : Sp := fun vs H Q _ => ∃ (p : Addr) (xs : List V) (rows : List (List Int)), vs = [.ref p] ∧ SqL K H p xs ∧ RowsI H xs rows ∧ rows.length ≤ 5000 ∧ (∀ r ∈ rows, r.length ≤ 10 ∧ ∀ z ∈ r, Sz 1800 z) ∧ ∀ (t : Addr) H', Same H H' → H t = none → H' t = some (.lst ((rows.map rowT).map V.str)) → Q (.ref t) H'
theorem ok_shown {P : Program} {w : World} {K : PySem.W.Frag} {mg : Str → Option Value} {base : Heap} (T : Top w K mg base) : FnOk P w K mg base CX0 1 T.f_shown T.fd_shown ["rows"] (sp_shown K) := by
  refine T.F_shown.ok sc_shown (fun vs H Q E h => ?_) (fun cdv A outer s H vs Q E hr h => ?_)
  · rcases h with ⟨p, xs, rows, rfl, _⟩ <;> rfl
  · obtain ⟨p, xs, rows, rfl, sq, ri, lr, hz, q⟩ := h
    refine ⟨_, (pss_one (ps_ret (pe_lc (own := [("row", 1)]) (g := gName 1) (tt := tYes) (by rfl) sc_shown.nd (pi_list (pv 0)) (blkOk_by (own := [("row", 1)]) (N := N_shown) (sc := defScope s_shown) (by decide +kernel)) (fun _ _ _ _ _ => pg_name (i := 1) sc_shown.nd rfl (Or.inl rfl)) (fun _ _ _ _ _ => pts_nil) (fun _ _ _ _ _ => (pe_m1 PySem.F.slot_str_join PySem.F.type_str_join (mt_joinK : MtR _ "str.join" (rJoinK K)) pe_str (pe_lc (own := [("number", 2)]) (g := gName 2) (tt := tYes) (by rfl) sc_shown.nd (pi_tup (pv 1) : PI _ _ _ (iTup K (tVar 1))) (blkOk_by (own := [("number", 2)]) (N := N_shown) (sc := inSc_shown) (by decide +kernel)) (fun _ _ _ _ _ => pg_name (i := 2) sc_shown.nd rfl (Or.inl rfl)) (fun _ _ _ _ _ => pts_nil) (fun _ _ _ _ _ => (pe_callTy call_str_int (by rfl) T.n_str (by decide +kernel) (pa_cons (pv 2) pa_nil))))))))), ?_⟩
    try rw [st_shown]

    have len := ri.len
    (repeat (with_reducible first | refine r_v0 ?_ | refine r_ret ?_ | refine r_iList ?_ | refine r_lc ?_))
    refine ⟨p, rfl, ⟨_, sq⟩, fun D nD => ?_⟩
    refine lc_ok_list (xs := xs) (fun i G => Same H G ∧ G D = some (.lst (((rows.take i).map rowT).map V.str))) ⟨same_upd nD, upd_same⟩ (fun i G _ z => Same.seq z.1 sq) ?_ ?_
    · rintro i v G hv ⟨sG, eG⟩
      obtain ⟨pr, r, rfl, hr, er⟩ := (RowsI.same sG ri).get hv
      have hi : i < rows.length := (List.getElem?_eq_some_iff.mp hr).1
      obtain ⟨lr1, zr⟩ := hz r (List.mem_of_getElem? hr)
      (repeat ((with_reducible refine' r_gname ?zze ?_); (case zze => exact rfl)))
      refine ⟨rfl, ?_⟩
      (repeat (first | (with_reducible first | refine r_C ?_ | refine r_iTup ?_ | refine iteT ?_ | refine r_lc ?_ | refine r_yes ?_ | refine r_m1 ?_ | refine r_isStr ?_) | ((with_reducible refine' r_var ?zze ?_); (case zze => exact rfl))))
      refine ⟨pr, rfl, ⟨_, .inl (.inl er)⟩, fun D2 nD2 => ?_⟩
      refine lc_ok_tup (xs := r.map V.int) (fun j G' => Same G G' ∧ G' D2 = some (.lst (((r.take j).map num).map V.str))) ⟨same_upd nD2, upd_same⟩ (fun j G' _ z => .inl (.inl (z.1 _ _ er))) ?_ ?_
      · rintro j x G' hx ⟨sG', eG'⟩
        rw [List.getElem?_map] at hx
        obtain ⟨z, hz', rfl⟩ : ∃ z, r[j]? = some z ∧ V.int z = x := by
          cases h : r[j]? with
          | none => rw [h] at hx; cases hx
          | some u => rw [h] at hx; exact ⟨u, rfl, Option.some.inj hx⟩
        have hj : j < r.length := (List.getElem?_eq_some_iff.mp hz').1
        (repeat ((with_reducible refine' r_gname ?zze ?_); (case zze => exact rfl)))
        refine ⟨rfl, ?_⟩
        (repeat (first | (with_reducible first | refine r_cons ?_ | refine r_nil ?_ | refine r_CB ?_ | refine iteT ?_ | refine r_yes ?_) | ((with_reducible refine' r_var ?zze ?_); (case zze => exact rfl))))
        refine ⟨z, rfl, log_okS (zr z (List.mem_of_getElem? hz')), ?_⟩
        refine acc_mk eG' (by rw [List.length_map, List.length_map, List.length_take]; omega) fun G3 e3 b3 => ?_
        refine ⟨same_but sG' nD2 b3, ?_⟩
        rw [e3, List.take_add_one, hz', List.map_append, List.map_append]
        rfl
      · rintro G' ⟨sG', eG'⟩
        rw [List.length_map, List.take_length] at eG'
        have bl : (" " : Str).length = 1 := by decide +kernel
        have sl := sum_len zr
        refine ⟨" ", D2, r.map num, rfl, rfl, .inl (.inl (.inl eG')), ?_, ?_⟩
        · rw [bl, List.length_map]
          omega
        refine acc_mkL (sG' _ _ eG) (by rw [List.length_map, List.length_map, List.length_take]; omega) fun G3 e3 b3 => ?_
        refine ⟨same_but (sG.trans sG') nD b3, ?_⟩
        rw [e3, List.take_add_one, hr, List.map_append, List.map_append]
        rfl
    · rintro G ⟨sG, eG⟩
      rw [len, List.take_length] at eG
      skip
      exact q D G sG nD eG
/-! ### Desk_init -/

def sp_Desk_init {w : World} {K : PySem.W.Frag} {mg : Str → Option Value} {base : Heap} (T : Top w K mg base) : Sp := fun vs H Q _ => ∃ (dk dx : Addr), vs = [.ref dk] ∧ H dk = some (.ins T.c_Desk dx []) ∧ ∀ dl H', Off dk H H' → DeskAt T.c_Desk H' dk dl 0 (fun _ => none) → H dl = none → Q .non H'
theorem ok_Desk_init {P : Program} {w : World} {K : PySem.W.Frag} {mg : Str → Option Value} {base : Heap} (T : Top w K mg base) : FnOk P w K mg base CX0 1 T.f_Desk_init T.fd_Desk_init ["self"] (sp_Desk_init T) := by
  refine T.F_Desk_init.ok sc_Desk_init (fun vs H Q E h => ?_) (fun cdv A outer s H vs Q E hr h => ?_)
  · rcases h with ⟨dk, dx, rfl, _⟩ <;> rfl
  · obtain ⟨dk, dx, rfl, e0, q⟩ := h
    refine ⟨_, (pss_one (ps_fld (pv 0) pe_dnewK rfl)), ?_⟩
    try rw [st_Desk_init]

    (repeat (with_reducible first | refine r_sfld ?_ | refine r_dnew ?_))
    intro dl nd
    (repeat (with_reducible refine r_v0 ?_))
    have ne : dk ≠ dl := ne_of_none e0 nd
    refine ⟨dk, T.c_Desk, dx, [], rfl, by rw [upd_ne ne]; exact e0, T.cl_Desk, T.na_lines, by decide, ?_⟩
    refine q dl _ (fun b o h hb => ?_) ⟨dx, [], upd_same, ?_, Nat.le_refl _, fun z => rfl⟩ nd
    · rw [upd_ne hb, upd_ne (ne_of_none h nd)]
      exact h
    · rw [upd_ne (Ne.symm ne)]
      exact upd_same
/-! ### Desk_put_line -/

def sp_Desk_put_line {w : World} {K : PySem.W.Frag} {mg : Str → Option Value} {base : Heap} (T : Top w K mg base) : Sp := fun vs H Q _ => ∃ (dk dl pw : Addr) (n : Nat) (tl : Str → Option Ln3) (name : Str) (l : Ln3), vs = [.ref dk, .ref pw] ∧ DeskAt T.c_Desk H dk dl n tl ∧ n ≤ 1000 ∧ SqL K H pw ([name, num l.1, num l.2.1, num l.2.2].map V.str) ∧ NameT name ∧ 0 < l.2.2 ∧ l.1.natAbs < 10 ^ 60 ∧ l.2.1.natAbs < 10 ^ 60 ∧ l.2.2.natAbs < 10 ^ 60 ∧
  ∀ H', Off dl H H' → DeskAt T.c_Desk H' dk dl (n + 1) (putT tl name l) → Q .non H'
theorem ok_Desk_put_line {P : Program} {w : World} {K : PySem.W.Frag} {mg : Str → Option Value} {base : Heap} (T : Top w K mg base) : FnOk P w K mg base CX0 5 T.f_Desk_put_line T.fd_Desk_put_line ["self", "words"] (sp_Desk_put_line T) := by
  refine T.F_Desk_put_line.ok sc_Desk_put_line (fun vs H Q E h => ?_) (fun cdv A outer s H vs Q E hr h => ?_)
  · rcases h with ⟨dk, dl, pw, n, tl, name, l, rfl, _⟩ <;> rfl
  · obtain ⟨dk, dl, pw, n, tl, name, l, rfl, D, hn, sq, hname, m0, la, lb, lm, q⟩ := h
    refine ⟨_, (pss_cons (ps_asg (pe_call (ok_read_numbers T) (hr.mono (by decide)) (by rfl) T.g_read_numbers T.F_read_numbers.kp T.b_read_numbers .nil pass0 (pa_cons (pe_slice sl_list (pv 1) (po_some pe_int) po_none) (pa_cons pe_str pa_nil))) (pg_unl rfl (pgs_cons (pg_name (i := 2) sc_Desk_put_line.nd rfl (Or.inl rfl)) (pgs_cons (pg_name (i := 3) sc_Desk_put_line.nd rfl (Or.inl rfl)) (pgs_cons (pg_name (i := 4) sc_Desk_put_line.nd rfl (Or.inl rfl)) pgs_nil)))))
  (pss_cons (ps_expr (pe_call (ok_check_name T) (hr.mono (by decide)) (by rfl) T.g_check_name T.F_check_name.kp T.b_check_name .nil pass0 (pa_cons (pe_ix ix_list (pv 1) pe_int (fun _ _ => rfl)) pa_nil)))
  (pss_cons (ps_set (i := 5) sc_Desk_put_line.nd rfl (Or.inl rfl) (pe_tup (pa_cons (pv 2) (pa_cons (pv 3) (pa_cons (pv 4) pa_nil)))))
  (pss_cons (ps_expr (pe_call (ok_check_line T) (hr.mono (by decide)) (by rfl) T.g_check_line T.F_check_line.kp T.b_check_line .nil pass0 (pa_cons (pv 5) pa_nil)))
  (pss_one (ps_dput (hu_of hr) (pe_fld (pv 0) rfl) (pe_ix ix_list (pv 1) pe_int (fun _ _ => rfl)) (pv 5) rfl)))))), ?_⟩
    try rw [st_Desk_put_line]

    have z0 : SqL K H pw [.str name, .str (num l.1), .str (num l.2.1), .str (num l.2.2)] := sq
    have l3 : ("XXX" : Str).length = 3 := by decide +kernel
    have fits : Fits [l.1, l.2.1, l.2.2] "XXX" := by
      refine ⟨by rw [l3]; rfl, (show 3 ≤ 10 by decide), ?_, ?_⟩
      · intro z hz
        simp only [List.mem_cons, List.not_mem_nil, or_false] at hz
        rcases hz with rfl | rfl | rfl <;> assumption
      · intro i z c hz hc hN
        have hx : ∀ c ∈ ("XXX" : Str).cps.toList, (⟨#[c]⟩ : Str) ≠ "N" := by decide +kernel
        have hm : c ∈ ("XXX" : Str).cps.toList := by
          rw [← Array.getElem?_toList] at hc
          exact List.mem_of_getElem? hc
        exact absurd hN (hx c hm)
    (repeat (with_reducible first | refine r_v1 ?_ | refine r_seq ?_ | refine r_asg ?_ | refine r_C ?_ | refine r_cons ?_ | refine r_call ?_ | refine r_sl ?_ | refine r_nopart ?_ | refine r_part ?_ | refine r_parti ?_))
    refine r_slL z0 fun p1 H1 n1 s1 e1 => ?_
    rw [show (1 : Int) = ((1 : Nat) : Int) from rfl, cut_dropD (show 1 ≤ 4 by decide)] at e1
    (repeat (with_reducible first | refine r_C ?_ | refine r_cons ?_ | refine r_nil ?_))
    refine ⟨p1, [l.1, l.2.1, l.2.2], "XXX", rfl, .inl (.inl e1), fits, fun p2 H2 s2 e2 => ?_⟩
    have S2 := s1.trans s2
    have z2 := Same.seq S2 z0
    have z3 : SqL K H2 p2 [.int l.1, .int l.2.1, .int l.2.2] := .inl (.inl e2)
    (repeat (first | (with_reducible first | refine r_v1 ?_ | refine r_gn2 ?_ | refine r_gn3 ?_ | refine r_gn4 ?_ | refine r_seq ?_ | refine r_C ?_ | refine r_op ?_ | refine r_drop ?_ | refine r_cons ?_ | refine r_nil ?_ | refine r_call ?_ | refine r_gcons ?_ | refine r_gnil ?_) | ((with_reducible refine' r_ixL ?zzs ?zze ?_); (case zzs => first | assumption | exact SqL.of (by assumption)); (case zze => exact rfl)) | ((with_reducible refine' r_gunl ?zzs ?zzl ?_); (case zzs => first | assumption | exact SqL.of (by assumption)); (case zzl => exact rfl))))
    refine ⟨name, rfl, hname, ?_⟩
    (repeat (with_reducible first | refine r_v2 ?_ | refine r_v3 ?_ | refine r_v4 ?_ | refine r_seq ?_ | refine r_asg ?_ | refine r_cons ?_ | refine r_nil ?_ | refine r_tup ?_))
    refine r_litT fun p3 H3 n3 s3 e3 => ?_
    have S3 := S2.trans s3
    have z5 : SqT K H3 p3 [.int l.1, .int l.2.1, .int l.2.2] := .inl (.inl e3)
    have z6 := Same.seq s3 z2
    (repeat (with_reducible first | refine r_v5 ?_ | refine r_gn5 ?_ | refine r_seq ?_ | refine r_drop ?_ | refine r_cons ?_ | refine r_nil ?_ | refine r_call ?_))
    refine ⟨p3, _, _, _, rfl, z5, m0, ?_⟩
    (repeat (with_reducible first | refine r_v0 ?_ | refine r_v5 ?_ | refine r_fld ?_ | refine r_dput ?_))
    obtain ⟨H4, g4, off, D4⟩ := (D.ex (Ex.of S3)).put hn (name := name) (l := l) e3
    refine desk_fld T.cl_Desk T.na_lines (D.ex (Ex.of S3)) ?_
    (repeat (first | (with_reducible first | refine r_v1 ?_ | refine r_C ?_ | refine r_op ?_) | ((with_reducible refine' r_ixL ?zzs ?zze ?_); (case zzs => first | assumption | exact SqL.of (by assumption)); (case zze => exact rfl))))
    refine ⟨dl, H4, rfl, g4, ?_⟩
    exact q H4 (fun b o h hb => off b o (S3 b o h) hb) D4
/-! ### Desk_line_of -/

def sp_Desk_line_of {w : World} {K : PySem.W.Frag} {mg : Str → Option Value} {base : Heap} (T : Top w K mg base) : Sp := fun vs H Q _ => ∃ (dk dl : Addr) (n : Nat) (tl : Str → Option Ln3) (name : Str) (l : Ln3), vs = [.ref dk, .str name] ∧ DeskAt T.c_Desk H dk dl n tl ∧ tl name = some l ∧ ∀ p, H p = some (.tup [.int l.1, .int l.2.1, .int l.2.2]) → Q (.ref p) H
theorem ok_Desk_line_of {P : Program} {w : World} {K : PySem.W.Frag} {mg : Str → Option Value} {base : Heap} (T : Top w K mg base) : FnOk P w K mg base CX0 1 T.f_Desk_line_of T.fd_Desk_line_of ["self", "name"] (sp_Desk_line_of T) := by
  refine T.F_Desk_line_of.ok sc_Desk_line_of (fun vs H Q E h => ?_) (fun cdv A outer s H vs Q E hr h => ?_)
  · rcases h with ⟨dk, dl, n, tl, name, l, rfl, _⟩ <;> rfl
  · obtain ⟨dk, dl, n, tl, name, l, rfl, D, hl, q⟩ := h
    refine ⟨_, (pss_cons (ps_if (pt_cmp (pc_dnotin (hu_of hr) (pv 1) (pe_fld (pv 0) rfl))) (pss_one ps_never) pss_nil)
  (pss_one (ps_ret (pe_dget (hu_of hr) (pe_fld (pv 0) rfl) (pv 1) (fun _ _ => rfl))))), ?_⟩
    try rw [st_Desk_line_of]

    obtain ⟨p, g, hp⟩ := desk_get D hl
    (repeat (with_reducible first | refine r_v0 ?_ | refine r_v1 ?_ | refine r_seq ?_ | refine r_if ?_ | refine r_B ?_ | refine r_fld ?_ | refine r_dnot ?_))
    refine desk_fld T.cl_Desk T.na_lines D ?_
    refine ⟨dl, _, rfl, g, ?_⟩
    rw [show (!(some (V.ref p)).isSome) = false from rfl]
    (repeat (with_reducible first | refine r_v0 ?_ | refine r_next ?_ | refine r_ret ?_ | refine r_bl ?_ | refine iteF ?_ | refine r_fld ?_ | refine r_dget ?_))
    refine desk_fld T.cl_Desk T.na_lines D ?_
    (repeat (with_reducible refine r_v1 ?_))
    refine ⟨dl, _, rfl, g, ?_⟩
    exact q p hp
/-! ### Desk_points_rows -/

def sp_Desk_points_rows {w : World} {K : PySem.W.Frag} {mg : Str → Option Value} {base : Heap} (T : Top w K mg base) : Sp := fun vs H Q _ => ∃ (dk dl pw : Addr) (n : Nat) (tl : Str → Option Ln3) (n1 n2 : List Str) (ab be : List Ln3) (low high : Int), vs = [.ref dk, .ref pw] ∧ DeskAt T.c_Desk H dk dl n tl ∧ SqL K H pw ((num low :: num high :: (n1 ++ (";" : Str) :: n2)).map V.str) ∧ 1 ≤ n1.length ∧ n1.length ≤ 4 ∧ 1 ≤ n2.length ∧ n2.length ≤ 4 ∧ (";" : Str) ∉ n1 ∧ (";" : Str) ∉ n2 ∧ LinesOf tl n1 ab ∧ LinesOf tl n2 be ∧ Gd ab ∧ Gd be ∧ low.natAbs < 10 ^ 60 ∧ high.natAbs < 10 ^ 60 ∧ low ≤ high ∧
  ∀ (t : Addr) (vs : List V) H', Same H H' → H' t = some (.lst vs) → RowsI H' vs [[ptsZ ab be low high]] → Q (.ref t) H'
theorem ok_Desk_points_rows {P : Program} {w : World} {K : PySem.W.Frag} {mg : Str → Option Value} {base : Heap} (T : Top w K mg base) : FnOk P w K mg base CX0 10 T.f_Desk_points_rows T.fd_Desk_points_rows ["self", "words"] (sp_Desk_points_rows T) := by
  refine T.F_Desk_points_rows.ok sc_Desk_points_rows (fun vs H Q E h => ?_) (fun cdv A outer s H vs Q E hr h => ?_)
  · rcases h with ⟨dk, dl, pw, n, tl, n1, n2, ab, be, low, high, rfl, _⟩ <;> rfl
  · obtain ⟨dk, dl, pw, n, tl, n1, n2, ab, be, low, high, rfl, D, sq, a1, a4, b1, b4, c1, c2, La, Lb, ga, gb, hlow, hhigh, lh, q⟩ := h
    refine ⟨_, (pss_cons (ps_asg (pe_call (ok_parted_names T) (hr.mono (by decide)) (by rfl) T.g_parted_names T.F_parted_names.kp T.b_parted_names .nil pass0 (pa_cons (pe_slice sl_list (pv 1) (po_some pe_int) po_none) pa_nil)) (pg_tup rfl (pgs_cons (pg_name (i := 2) sc_Desk_points_rows.nd rfl (Or.inl rfl)) (pgs_cons (pg_name (i := 3) sc_Desk_points_rows.nd rfl (Or.inl rfl)) pgs_nil))))
  (pss_cons (ps_asg (pe_call (ok_read_numbers T) (hr.mono (by decide)) (by rfl) T.g_read_numbers T.F_read_numbers.kp T.b_read_numbers .nil pass0 (pa_cons (pe_slice sl_list (pv 1) po_none (po_some pe_int)) (pa_cons pe_str pa_nil))) (pg_unl rfl (pgs_cons (pg_name (i := 4) sc_Desk_points_rows.nd rfl (Or.inl rfl)) (pgs_cons (pg_name (i := 5) sc_Desk_points_rows.nd rfl (Or.inl rfl)) pgs_nil))))
  (pss_cons (ps_set (i := 6) sc_Desk_points_rows.nd rfl (Or.inl rfl) (pe_callTy call_tupN (by rfl) T.n_tuple (by decide +kernel) (pa_cons (pe_lc (own := [("name", 8)]) (g := gName 8) (tt := tYes) (by rfl) sc_Desk_points_rows.nd (pi_list (pv 2)) (blkOk_by (own := [("name", 8)]) (N := N_Desk_points_rows) (sc := defScope s_Desk_points_rows) (by decide +kernel)) (fun _ _ _ _ _ => pg_name (i := 8) sc_Desk_points_rows.nd rfl (Or.inl rfl)) (fun _ _ _ _ _ => pts_nil) (fun _ _ _ _ _ => (pe_meth (pv 0) T.cl_Desk T.m_Desk_line_of (ok_Desk_line_of T) (hr.mono (by decide)) T.b_Desk_line_of .nil pass0 (pa_cons (pv 8) pa_nil)))) pa_nil)))
  (pss_cons (ps_set (i := 7) sc_Desk_points_rows.nd rfl (Or.inl rfl) (pe_callTy call_tupN (by rfl) T.n_tuple (by decide +kernel) (pa_cons (pe_lc (own := [("name", 8)]) (g := gName 8) (tt := tYes) (by rfl) sc_Desk_points_rows.nd (pi_list (pv 3)) (blkOk_by (own := [("name", 8)]) (N := N_Desk_points_rows) (sc := defScope s_Desk_points_rows) (by decide +kernel)) (fun _ _ _ _ _ => pg_name (i := 8) sc_Desk_points_rows.nd rfl (Or.inl rfl)) (fun _ _ _ _ _ => pts_nil) (fun _ _ _ _ _ => (pe_meth (pv 0) T.cl_Desk T.m_Desk_line_of (ok_Desk_line_of T) (hr.mono (by decide)) T.b_Desk_line_of .nil pass0 (pa_cons (pv 8) pa_nil)))) pa_nil)))
  (pss_one (ps_ret (pe_lst (pa_cons (pe_tup (pa_cons (pe_call (ok_points_between T) (hr.mono (by decide)) (by rfl) T.g_points_between T.F_points_between.kp T.b_points_between .nil pass0 (pa_cons (pv 6) (pa_cons (pv 7) (pa_cons (pv 4) (pa_cons (pv 5) pa_nil))))) pa_nil)) pa_nil)))))))), ?_⟩
    try rw [st_Desk_points_rows]

    have l2 : ("XX" : Str).length = 2 := by decide +kernel
    have fits : Fits [low, high] "XX" := by
      refine ⟨by rw [l2]; rfl, (show 2 ≤ 10 by decide), ?_, ?_⟩
      · intro z hz
        simp only [List.mem_cons, List.not_mem_nil, or_false] at hz
        rcases hz with rfl | rfl <;> assumption
      · intro i z c hz hc hN
        have hx : ∀ c ∈ ("XX" : Str).cps.toList, (⟨#[c]⟩ : Str) ≠ "N" := by decide +kernel
        have hm : c ∈ ("XX" : Str).cps.toList := by
          rw [← Array.getElem?_toList] at hc
          exact List.mem_of_getElem? hc
        exact absurd hN (hx c hm)
    have sz : ∀ {z : Int}, z.natAbs < 10 ^ 60 → Sz 300 z := fun {z} h => by
      have h2 : (10 : Nat) ^ 60 ≤ 2 ^ 200 := by decide
      exact Sz.mono (a := 200) (show z.natAbs < 2 ^ 200 by omega) (by decide)
    have lna := La.len
    have lnb := Lb.len
    (repeat (with_reducible first | refine r_v1 ?_ | refine r_seq ?_ | refine r_asg ?_ | refine r_C ?_ | refine r_cons ?_ | refine r_call ?_ | refine r_sl ?_ | refine r_nopart ?_ | refine r_part ?_ | refine r_parti ?_))
    refine r_slL sq fun p1 H1 m1 s1 e1 => ?_
    rw [show (2 : Int) = ((2 : Nat) : Int) from rfl, cut_dropD (Nat.succ_le_succ (Nat.succ_le_succ (Nat.zero_le _)))] at e1
    (repeat (with_reducible refine r_nil ?_))
    refine ⟨p1, n1, n2, rfl, .inl (.inl e1), a1, a4, b1, b4, c1, c2, fun t2 q1 q2 H2 s2 e2 f1 f2 => ?_⟩
    have z2 : SqT K H2 t2 [.ref q1, .ref q2] := .inl (.inl e2)
    have S2 := s1.trans s2
    (repeat (first | (with_reducible first | refine r_v1 ?_ | refine r_gn2 ?_ | refine r_gn3 ?_ | refine r_seq ?_ | refine r_asg ?_ | refine r_C ?_ | refine r_cons ?_ | refine r_call ?_ | refine r_gcons ?_ | refine r_gnil ?_ | refine r_sl ?_ | refine r_nopart ?_ | refine r_part ?_ | refine r_parti ?_) | ((with_reducible refine' r_gtup ?zzs ?zzl ?_); (case zzs => assumption); (case zzl => exact rfl))))
    refine r_slL (Same.seq S2 sq) fun p3 H3 m3 s3 e3 => ?_
    rw [show (2 : Int) = ((2 : Nat) : Int) from rfl, cut_toD (Nat.succ_le_succ (Nat.succ_le_succ (Nat.zero_le _)))] at e3
    (repeat (with_reducible first | refine r_C ?_ | refine r_cons ?_ | refine r_nil ?_))
    refine ⟨p3, [low, high], "XX", rfl, .inl (.inl e3), fits, fun t4 H4 s4 e4 => ?_⟩
    have z4 : SqL K H4 t4 [.int low, .int high] := .inl (.inl e4)
    have S4 := (S2.trans s3).trans s4
    have f14 := s4 _ _ (s3 _ _ f1)
    have f24 := s4 _ _ (s3 _ _ f2)
    (repeat (first | (with_reducible first | refine r_v2 ?_ | refine r_gn4 ?_ | refine r_gn5 ?_ | refine r_seq ?_ | refine r_asg ?_ | refine r_cons ?_ | refine r_CB ?_ | refine r_gcons ?_ | refine r_gnil ?_ | refine r_iList ?_ | refine r_lc ?_) | ((with_reducible refine' r_gunl ?zzs ?zzl ?_); (case zzs => first | assumption | exact SqL.of (by assumption)); (case zzl => exact rfl))))
    refine ⟨q1, rfl, ⟨_, .inl (.inl f14)⟩, fun B nB => ?_⟩
    refine lc_ok_list (xs := n1.map V.str) (fun i G => Same H4 G ∧ ∃ ws : List V, G B = some (.lst ws) ∧ ws.length = i ∧ R3 G ws (ab.take i)) ⟨same_upd nB, [], upd_same, rfl, trivial⟩ (fun i G _ z => .inl (.inl (z.1 _ _ f14))) ?_ ?_
    · rintro i x G hx ⟨sG, ws, eG, lG, rG⟩
      rw [List.getElem?_map] at hx
      obtain ⟨nm, hnm, rfl⟩ : ∃ z, n1[i]? = some z ∧ V.str z = x := by
        cases h : n1[i]? with
        | none => rw [h] at hx; cases hx
        | some u => rw [h] at hx; exact ⟨u, rfl, Option.some.inj hx⟩
      obtain ⟨l, hl, htl⟩ := La.get hnm
      have hi : i < n1.length := (List.getElem?_eq_some_iff.mp hnm).1
      have DG := D.ex (Ex.of (S4.trans sG))
      (repeat ((with_reducible refine' r_gname ?zze ?_); (case zze => exact rfl)))
      refine ⟨rfl, ?_⟩
      (repeat (first | (with_reducible first | refine iteT ?_ | refine r_yes ?_ | refine r_meth ?_) | ((with_reducible refine' r_var ?zze ?_); (case zze => exact rfl))))
      refine desk_meth DG (by decide +kernel) ?_
      (repeat (first | (with_reducible first | refine r_cons ?_ | refine r_nil ?_) | ((with_reducible refine' r_var ?zze ?_); (case zze => exact rfl))))
      refine ⟨dk, dl, n, tl, nm, l, rfl, DG, htl, fun p hp => ?_⟩
      refine acc_mk eG (by omega) fun G3 e3 b3 => ?_
      have bt := but_tup eG b3
      refine ⟨same_but sG nB b3, _, e3, by rw [List.length_append, lG]; rfl, ?_⟩
      rw [List.take_add_one, hl]
      exact R3.app (t := l) (bt _ _ hp) (rG.more bt)
    rintro H5 ⟨s5, ws, e5, lw, r5⟩
    rw [List.length_map, lna, List.take_length] at r5
    have S5 := S4.trans s5
    have f25 := s5 _ _ f24
    (repeat (with_reducible refine r_nil ?_))
    refine r_tupOf (.inl (.inl e5)) fun pa H6 n6 s6 e6 => ?_
    have S6 := S5.trans s6
    have f26 := s6 _ _ f25
    (repeat (with_reducible first | refine r_v3 ?_ | refine r_gn6 ?_ | refine r_seq ?_ | refine r_asg ?_ | refine r_cons ?_ | refine r_CB ?_ | refine r_iList ?_ | refine r_lc ?_))
    refine ⟨q2, rfl, ⟨_, .inl (.inl f26)⟩, fun C2 nC => ?_⟩
    refine lc_ok_list (xs := n2.map V.str) (fun i G => Same H6 G ∧ ∃ ws : List V, G C2 = some (.lst ws) ∧ ws.length = i ∧ R3 G ws (be.take i)) ⟨same_upd nC, [], upd_same, rfl, trivial⟩ (fun i G _ z => .inl (.inl (z.1 _ _ f26))) ?_ ?_
    · rintro i x G hx ⟨sG, ws, eG, lG, rG⟩
      rw [List.getElem?_map] at hx
      obtain ⟨nm, hnm, rfl⟩ : ∃ z, n2[i]? = some z ∧ V.str z = x := by
        cases h : n2[i]? with
        | none => rw [h] at hx; cases hx
        | some u => rw [h] at hx; exact ⟨u, rfl, Option.some.inj hx⟩
      obtain ⟨l, hl, htl⟩ := Lb.get hnm
      have hi : i < n2.length := (List.getElem?_eq_some_iff.mp hnm).1
      have DG := D.ex (Ex.of (S6.trans sG))
      (repeat ((with_reducible refine' r_gname ?zze ?_); (case zze => exact rfl)))
      refine ⟨rfl, ?_⟩
      (repeat (first | (with_reducible first | refine iteT ?_ | refine r_yes ?_ | refine r_meth ?_) | ((with_reducible refine' r_var ?zze ?_); (case zze => exact rfl))))
      refine desk_meth DG (by decide +kernel) ?_
      (repeat (first | (with_reducible first | refine r_cons ?_ | refine r_nil ?_) | ((with_reducible refine' r_var ?zze ?_); (case zze => exact rfl))))
      refine ⟨dk, dl, n, tl, nm, l, rfl, DG, htl, fun p hp => ?_⟩
      refine acc_mk eG (by omega) fun G3 e3 b3 => ?_
      have bt := but_tup eG b3
      refine ⟨same_but sG nC b3, _, e3, by rw [List.length_append, lG]; rfl, ?_⟩
      rw [List.take_add_one, hl]
      exact R3.app (t := l) (bt _ _ hp) (rG.more bt)
    rintro H7 ⟨s7, ws2, e7, lw2, r7⟩
    rw [List.length_map, lnb, List.take_length] at r7
    (repeat (with_reducible refine r_nil ?_))
    refine r_tupOf (.inl (.inl e7)) fun pb H8 n8 s8 e8 => ?_
    have t68 := s7.trans s8
    have S8 := S6.trans t68
    (repeat (with_reducible first | refine r_v4 ?_ | refine r_v5 ?_ | refine r_v6 ?_ | refine r_v7 ?_ | refine r_gn7 ?_ | refine r_ret ?_ | refine r_cons ?_ | refine r_nil ?_ | refine r_call ?_ | refine r_tup ?_ | refine r_lst ?_))
    refine ⟨pa, pb, low, high, ab, be, rfl, ⟨ws, .inl (.inl (t68 _ _ e6)), ((r5.same s6).same t68)⟩, ⟨ws2, .inl (.inl e8), r7.same s8⟩, ga, gb, by omega, by omega, by omega, lh, (sz hlow).mono (by decide), (sz hhigh).mono (by decide), fun H9 s9 => ?_⟩
    (repeat (with_reducible refine r_nil ?_))
    refine r_litT fun p10 H10 n10 s10 e10 => ?_
    (repeat (with_reducible refine r_nil ?_))
    refine r_lit fun p11 H11 n11 s11 e11 => ?_
    exact q p11 _ H11 (S8.trans ((s9.trans s10).trans s11)) e11 ⟨⟨p10, rfl, s11 _ _ e10⟩, trivial⟩

def tabS {w : World} {K : PySem.W.Frag} {mg : Str → Option Value} {base : Heap} (T : Top w K mg base) : Addr → Option Sp := fun f =>
  if f = T.f_part_rows then some (sp_part_rows K T.p_in_order_)
  else if f = T.f_rest_rows then some (sp_rest_rows K T.p_in_order_)
  else if f = T.f_sum_rows then some (sp_sum_rows K T.p_in_order_)
  else if f = T.f_rests_rows then some (sp_rests_rows K T.p_in_order_)
  else if f = T.f_squares_rows then some (sp_squares_rows K T.p_in_order_)
  else if f = T.f_placed_rows then some (sp_placed_rows K T.p_in_order_)
  else if f = T.f_between_rows then some (sp_between_rows K T.p_in_order_)
  else if f = T.f_beneath_rows then some (sp_beneath_rows K T.p_in_order_)
  else if f = T.f_within_rows then some (sp_within_rows K T.p_in_order_)
  else if f = T.f_order_rows then some (sp_order_rows K T.p_in_order_)
  else if f = T.f_paper_rows then some (sp_paper_rows K T.p_in_order_) else none
theorem held_tab {P : Program} {w : World} {K : PySem.W.Frag} {mg : Str → Option Value} {base : Heap} (T : Top w K mg base) : ∀ f sp, tabS T f = some sp → Held P w K mg base 10 f sp := by
  intro f sp h
  unfold tabS at h
  by_cases h_part : f = T.f_part_rows
  · rw [if_pos h_part] at h
    cases h
    rw [h_part]
    exact ⟨T.fd_part_rows, _, (ok_part_rows T).mono (by decide), T.F_part_rows.kp, T.b_part_rows⟩
  rw [if_neg h_part] at h
  by_cases h_rest : f = T.f_rest_rows
  · rw [if_pos h_rest] at h
    cases h
    rw [h_rest]
    exact ⟨T.fd_rest_rows, _, (ok_rest_rows T).mono (by decide), T.F_rest_rows.kp, T.b_rest_rows⟩
  rw [if_neg h_rest] at h
  by_cases h_sum : f = T.f_sum_rows
  · rw [if_pos h_sum] at h
    cases h
    rw [h_sum]
    exact ⟨T.fd_sum_rows, _, (ok_sum_rows T).mono (by decide), T.F_sum_rows.kp, T.b_sum_rows⟩
  rw [if_neg h_sum] at h
  by_cases h_rests : f = T.f_rests_rows
  · rw [if_pos h_rests] at h
    cases h
    rw [h_rests]
    exact ⟨T.fd_rests_rows, _, (ok_rests_rows T).mono (by decide), T.F_rests_rows.kp, T.b_rests_rows⟩
  rw [if_neg h_rests] at h
  by_cases h_squares : f = T.f_squares_rows
  · rw [if_pos h_squares] at h
    cases h
    rw [h_squares]
    exact ⟨T.fd_squares_rows, _, (ok_squares_rows T).mono (by decide), T.F_squares_rows.kp, T.b_squares_rows⟩
  rw [if_neg h_squares] at h
  by_cases h_placed : f = T.f_placed_rows
  · rw [if_pos h_placed] at h
    cases h
    rw [h_placed]
    exact ⟨T.fd_placed_rows, _, (ok_placed_rows T).mono (by decide), T.F_placed_rows.kp, T.b_placed_rows⟩
  rw [if_neg h_placed] at h
  by_cases h_between : f = T.f_between_rows
  · rw [if_pos h_between] at h
    cases h
    rw [h_between]
    exact ⟨T.fd_between_rows, _, (ok_between_rows T).mono (by decide), T.F_between_rows.kp, T.b_between_rows⟩
  rw [if_neg h_between] at h
  by_cases h_beneath : f = T.f_beneath_rows
  · rw [if_pos h_beneath] at h
    cases h
    rw [h_beneath]
    exact ⟨T.fd_beneath_rows, _, (ok_beneath_rows T).mono (by decide), T.F_beneath_rows.kp, T.b_beneath_rows⟩
  rw [if_neg h_beneath] at h
  by_cases h_within : f = T.f_within_rows
  · rw [if_pos h_within] at h
    cases h
    rw [h_within]
    exact ⟨T.fd_within_rows, _, (ok_within_rows T).mono (by decide), T.F_within_rows.kp, T.b_within_rows⟩
  rw [if_neg h_within] at h
  by_cases h_order : f = T.f_order_rows
  · rw [if_pos h_order] at h
    cases h
    rw [h_order]
    exact ⟨T.fd_order_rows, _, (ok_order_rows T).mono (by decide), T.F_order_rows.kp, T.b_order_rows⟩
  rw [if_neg h_order] at h
  by_cases h_paper : f = T.f_paper_rows
  · rw [if_pos h_paper] at h
    cases h
    rw [h_paper]
    exact ⟨T.fd_paper_rows, _, (ok_paper_rows T).mono (by decide), T.F_paper_rows.kp, T.b_paper_rows⟩
  rw [if_neg h_paper] at h
  cases h
/-- the rule for a word, its form, what is asked and what is told -/
inductive WordR : Str → Str → CondR → AnsR → Prop
  | part_ : WordR "part" "X" cOne aPart
  | rest_ : WordR "rest" "X" cOne aRest
  | sum_ : WordR "sum" "N" cCnt aSum
  | rests_ : WordR "rests" "N" cCnt aRests
  | squares_ : WordR "squares" "N" cCnt aSq
  | placed_ : WordR "placed" "N" cCnt aPl
  | between_ : WordR "between" "XX" cBet aBet
  | beneath_ : WordR "beneath" "NX" cBen aBen
  | within_ : WordR "within" "XX" cWit aWit
  | order_ : WordR "order" "NX" cOrd aOrd
  | paper_ : WordR "paper" "N" cCnt aPaper
theorem tab_word {w : World} {K : PySem.W.Frag} {mg : Str → Option Value} {base : Heap} (T : Top w K mg base) {word form : Str} {c : CondR} {a : AnsR} (h : WordR word form c a) : ∃ f : Addr, KDct K w T.d_ANSWERS word (.ref f) ∧ tabS T f = some (RowSp lq_in_order K T.p_in_order_ c a) ∧ KDct K w T.d_FORMS word (.str form) ∧ ∃ r, PySem.W.nsIn K T.d_ANSWERS word = some (some r) := by
  have nd := T.nd_tab
  simp only [List.nodup_cons, List.mem_cons, List.not_mem_nil, or_false, not_or] at nd
  cases h with
  | part_ =>
    obtain ⟨t, ht⟩ := T.k_FORMS_part
    refine ⟨T.f_part_rows, ⟨_, _, _, T.kd_ANSWERS.at_, T.kd_ANSWERS.lit, T.k_ANSWERS_part, rfl⟩, ?_, ⟨_, _, _, T.kd_FORMS.at_, T.kd_FORMS.lit, ht, ⟨t, rfl⟩⟩, _, T.k_ANSWERS_part⟩
    unfold tabS
    simp_all [sp_part_rows, sp_rest_rows, sp_sum_rows, sp_rests_rows, sp_squares_rows, sp_placed_rows, sp_between_rows, sp_beneath_rows, sp_within_rows, sp_order_rows, sp_paper_rows, eq_comm]
  | rest_ =>
    obtain ⟨t, ht⟩ := T.k_FORMS_rest
    refine ⟨T.f_rest_rows, ⟨_, _, _, T.kd_ANSWERS.at_, T.kd_ANSWERS.lit, T.k_ANSWERS_rest, rfl⟩, ?_, ⟨_, _, _, T.kd_FORMS.at_, T.kd_FORMS.lit, ht, ⟨t, rfl⟩⟩, _, T.k_ANSWERS_rest⟩
    unfold tabS
    simp_all [sp_part_rows, sp_rest_rows, sp_sum_rows, sp_rests_rows, sp_squares_rows, sp_placed_rows, sp_between_rows, sp_beneath_rows, sp_within_rows, sp_order_rows, sp_paper_rows, eq_comm]
  | sum_ =>
    obtain ⟨t, ht⟩ := T.k_FORMS_sum
    refine ⟨T.f_sum_rows, ⟨_, _, _, T.kd_ANSWERS.at_, T.kd_ANSWERS.lit, T.k_ANSWERS_sum, rfl⟩, ?_, ⟨_, _, _, T.kd_FORMS.at_, T.kd_FORMS.lit, ht, ⟨t, rfl⟩⟩, _, T.k_ANSWERS_sum⟩
    unfold tabS
    simp_all [sp_part_rows, sp_rest_rows, sp_sum_rows, sp_rests_rows, sp_squares_rows, sp_placed_rows, sp_between_rows, sp_beneath_rows, sp_within_rows, sp_order_rows, sp_paper_rows, eq_comm]
  | rests_ =>
    obtain ⟨t, ht⟩ := T.k_FORMS_rests
    refine ⟨T.f_rests_rows, ⟨_, _, _, T.kd_ANSWERS.at_, T.kd_ANSWERS.lit, T.k_ANSWERS_rests, rfl⟩, ?_, ⟨_, _, _, T.kd_FORMS.at_, T.kd_FORMS.lit, ht, ⟨t, rfl⟩⟩, _, T.k_ANSWERS_rests⟩
    unfold tabS
    simp_all [sp_part_rows, sp_rest_rows, sp_sum_rows, sp_rests_rows, sp_squares_rows, sp_placed_rows, sp_between_rows, sp_beneath_rows, sp_within_rows, sp_order_rows, sp_paper_rows, eq_comm]
  | squares_ =>
    obtain ⟨t, ht⟩ := T.k_FORMS_squares
    refine ⟨T.f_squares_rows, ⟨_, _, _, T.kd_ANSWERS.at_, T.kd_ANSWERS.lit, T.k_ANSWERS_squares, rfl⟩, ?_, ⟨_, _, _, T.kd_FORMS.at_, T.kd_FORMS.lit, ht, ⟨t, rfl⟩⟩, _, T.k_ANSWERS_squares⟩
    unfold tabS
    simp_all [sp_part_rows, sp_rest_rows, sp_sum_rows, sp_rests_rows, sp_squares_rows, sp_placed_rows, sp_between_rows, sp_beneath_rows, sp_within_rows, sp_order_rows, sp_paper_rows, eq_comm]
  | placed_ =>
    obtain ⟨t, ht⟩ := T.k_FORMS_placed
    refine ⟨T.f_placed_rows, ⟨_, _, _, T.kd_ANSWERS.at_, T.kd_ANSWERS.lit, T.k_ANSWERS_placed, rfl⟩, ?_, ⟨_, _, _, T.kd_FORMS.at_, T.kd_FORMS.lit, ht, ⟨t, rfl⟩⟩, _, T.k_ANSWERS_placed⟩
    unfold tabS
    simp_all [sp_part_rows, sp_rest_rows, sp_sum_rows, sp_rests_rows, sp_squares_rows, sp_placed_rows, sp_between_rows, sp_beneath_rows, sp_within_rows, sp_order_rows, sp_paper_rows, eq_comm]
  | between_ =>
    obtain ⟨t, ht⟩ := T.k_FORMS_between
    refine ⟨T.f_between_rows, ⟨_, _, _, T.kd_ANSWERS.at_, T.kd_ANSWERS.lit, T.k_ANSWERS_between, rfl⟩, ?_, ⟨_, _, _, T.kd_FORMS.at_, T.kd_FORMS.lit, ht, ⟨t, rfl⟩⟩, _, T.k_ANSWERS_between⟩
    unfold tabS
    simp_all [sp_part_rows, sp_rest_rows, sp_sum_rows, sp_rests_rows, sp_squares_rows, sp_placed_rows, sp_between_rows, sp_beneath_rows, sp_within_rows, sp_order_rows, sp_paper_rows, eq_comm]
  | beneath_ =>
    obtain ⟨t, ht⟩ := T.k_FORMS_beneath
    refine ⟨T.f_beneath_rows, ⟨_, _, _, T.kd_ANSWERS.at_, T.kd_ANSWERS.lit, T.k_ANSWERS_beneath, rfl⟩, ?_, ⟨_, _, _, T.kd_FORMS.at_, T.kd_FORMS.lit, ht, ⟨t, rfl⟩⟩, _, T.k_ANSWERS_beneath⟩
    unfold tabS
    simp_all [sp_part_rows, sp_rest_rows, sp_sum_rows, sp_rests_rows, sp_squares_rows, sp_placed_rows, sp_between_rows, sp_beneath_rows, sp_within_rows, sp_order_rows, sp_paper_rows, eq_comm]
  | within_ =>
    obtain ⟨t, ht⟩ := T.k_FORMS_within
    refine ⟨T.f_within_rows, ⟨_, _, _, T.kd_ANSWERS.at_, T.kd_ANSWERS.lit, T.k_ANSWERS_within, rfl⟩, ?_, ⟨_, _, _, T.kd_FORMS.at_, T.kd_FORMS.lit, ht, ⟨t, rfl⟩⟩, _, T.k_ANSWERS_within⟩
    unfold tabS
    simp_all [sp_part_rows, sp_rest_rows, sp_sum_rows, sp_rests_rows, sp_squares_rows, sp_placed_rows, sp_between_rows, sp_beneath_rows, sp_within_rows, sp_order_rows, sp_paper_rows, eq_comm]
  | order_ =>
    obtain ⟨t, ht⟩ := T.k_FORMS_order
    refine ⟨T.f_order_rows, ⟨_, _, _, T.kd_ANSWERS.at_, T.kd_ANSWERS.lit, T.k_ANSWERS_order, rfl⟩, ?_, ⟨_, _, _, T.kd_FORMS.at_, T.kd_FORMS.lit, ht, ⟨t, rfl⟩⟩, _, T.k_ANSWERS_order⟩
    unfold tabS
    simp_all [sp_part_rows, sp_rest_rows, sp_sum_rows, sp_rests_rows, sp_squares_rows, sp_placed_rows, sp_between_rows, sp_beneath_rows, sp_within_rows, sp_order_rows, sp_paper_rows, eq_comm]
  | paper_ =>
    obtain ⟨t, ht⟩ := T.k_FORMS_paper
    refine ⟨T.f_paper_rows, ⟨_, _, _, T.kd_ANSWERS.at_, T.kd_ANSWERS.lit, T.k_ANSWERS_paper, rfl⟩, ?_, ⟨_, _, _, T.kd_FORMS.at_, T.kd_FORMS.lit, ht, ⟨t, rfl⟩⟩, _, T.k_ANSWERS_paper⟩
    unfold tabS
    simp_all [sp_part_rows, sp_rest_rows, sp_sum_rows, sp_rests_rows, sp_squares_rows, sp_placed_rows, sp_between_rows, sp_beneath_rows, sp_within_rows, sp_order_rows, sp_paper_rows, eq_comm]
/-! ### Desk_rows_of_one -/

def sp_Desk_rows_of_one {w : World} {K : PySem.W.Frag} {mg : Str → Option Value} {base : Heap} (T : Top w K mg base) : Sp := fun vs H Q _ => ∃ (dk dl pw : Addr) (n : Nat) (tl : Str → Option Ln3) (name word form : Str) (l : Ln3) (ns : List Int) (c : CondR) (a : AnsR), vs = [.ref dk, .str word, .ref pw] ∧ DeskAt T.c_Desk H dk dl n tl ∧ tl name = some l ∧ 0 < l.2.2 ∧ Sz 300 l.1 ∧ Sz 300 l.2.1 ∧ Sz 300 l.2.2 ∧ WordR word form c a ∧ SqL K H pw ((name :: ns.map num).map V.str) ∧ Fits ns form ∧ c l.1 l.2.1 l.2.2 ns ∧ LamX.TabS H T.p_in_order_ lq_in_order ∧
  ∀ (t : Addr) (vs : List V) (rows : List (List Int)) H', Ex H H' → LamX.TabS H' T.p_in_order_ lq_in_order → a l.1 l.2.1 l.2.2 ns rows → H' t = some (.lst vs) → RowsI H' vs rows → rows.length ≤ 5000 → (∀ r ∈ rows, r.length ≤ 5 ∧ ∀ z ∈ r, Sz 1800 z) → Q (.ref t) H'
theorem ok_Desk_rows_of_one {P : Program} {w : World} {K : PySem.W.Frag} {mg : Str → Option Value} {base : Heap} (T : Top w K mg base) : FnOk P w K mg base CX0 11 T.f_Desk_rows_of_one T.fd_Desk_rows_of_one ["self", "word", "words"] (sp_Desk_rows_of_one T) := by
  refine T.F_Desk_rows_of_one.ok sc_Desk_rows_of_one (fun vs H Q E h => ?_) (fun cdv A outer s H vs Q E hr h => ?_)
  · rcases h with ⟨dk, dl, pw, n, tl, name, word, form, l, ns, c, a, rfl, _⟩ <;> rfl
  · obtain ⟨dk, dl, pw, n, tl, name, word, form, l, ns, c, a, rfl, D, hl, m0, sa, sb, sm, hw, sq, fits, hc, tab, q⟩ := h
    refine ⟨_, (pss_cons (ps_if (pt_cmpR (op_notIn_kd T.kd_ANSWERS) (pv 1) (pe_glob (v := .ref T.d_ANSWERS) (by rfl) T.g_ANSWERS rfl) rfl) (pss_one ps_never) pss_nil)
  (pss_cons (ps_set (i := 3) sc_Desk_rows_of_one.nd rfl (Or.inl rfl) (pe_call (ok_read_numbers T) (hr.mono (by decide)) (by rfl) T.g_read_numbers T.F_read_numbers.kp T.b_read_numbers .nil pass0 (pa_cons (pe_slice sl_list (pv 2) (po_some pe_int) po_none) (pa_cons (pe_ix ix_kdict (pe_glob (v := .ref T.d_FORMS) (by rfl) T.g_FORMS rfl) (pv 1) (fun _ _ => rfl)) pa_nil))))
  (pss_cons (ps_set (i := 4) sc_Desk_rows_of_one.nd rfl (Or.inl rfl) (pe_meth (pv 0) T.cl_Desk T.m_Desk_line_of (ok_Desk_line_of T) (hr.mono (by decide)) T.b_Desk_line_of .nil pass0 (pa_cons (pe_ix ix_list (pv 2) pe_int (fun _ _ => rfl)) pa_nil)))
  (pss_cons (ps_set (i := 5) sc_Desk_rows_of_one.nd rfl (Or.inl rfl) (pe_ix ix_kdict (pe_glob (v := .ref T.d_ANSWERS) (by rfl) T.g_ANSWERS rfl) (pv 1) (fun _ _ => rfl)))
  (pss_one (ps_ret (pe_callA (i := 5) (S := tabS T) (held_tab T) (hr.mono (by decide)) rfl (Or.inl rfl) (pa_cons (pv 4) (pa_cons (pv 3) pa_nil))))))))), ?_⟩
    try rw [st_Desk_rows_of_one]

    obtain ⟨f, kA, kS, kF, r0, kN⟩ := tab_word T hw
    (repeat (with_reducible first | refine r_v1 ?_ | refine r_seq ?_ | refine r_C ?_ | refine r_op ?_ | refine r_if ?_ | refine r_test ?_))
    refine ⟨word, some r0, rfl, rfl, kN, ?_⟩
    refine ⟨_, rfl, ?_⟩
    rw [show (!(some r0).isSome) = false from rfl]
    have z0 : SqL K H pw (.str name :: (ns.map num).map V.str) := sq
    have szn : ∀ x ∈ ns, Sz 300 x := fun x hx => by
      have h1 := fits.2.2.1 x hx
      have h2 : (10 : Nat) ^ 60 ≤ 2 ^ 200 := by decide
      exact Sz.mono (a := 200) (show x.natAbs < 2 ^ 200 by omega) (by decide)
    (repeat (with_reducible first | refine r_v2 ?_ | refine r_seq ?_ | refine r_next ?_ | refine r_asg ?_ | refine r_C ?_ | refine r_cons ?_ | refine r_call ?_ | refine r_sl ?_ | refine r_nopart ?_ | refine r_part ?_ | refine r_parti ?_ | refine iteF ?_))
    refine r_slL sq fun p1 H1 n1 s1 e1 => ?_
    rw [show (1 : Int) = ((1 : Nat) : Int) from rfl, cut_dropD (Nat.succ_le_succ (Nat.zero_le _))] at e1
    (repeat (with_reducible first | refine r_v1 ?_ | refine r_C ?_ | refine r_op ?_ | refine r_cons ?_))
    refine ⟨T.d_FORMS, word, .str form, rfl, rfl, kF, ?_⟩
    (repeat (with_reducible refine r_nil ?_))
    refine ⟨p1, ns, form, rfl, .inl (.inl e1), fits, fun t2 H2 s2 e2 => ?_⟩
    have S2 := s1.trans s2
    have D2 := D.ex (Ex.of S2)
    (repeat (with_reducible first | refine r_v0 ?_ | refine r_gn3 ?_ | refine r_seq ?_ | refine r_asg ?_ | refine r_meth ?_))
    refine desk_meth D2 (by decide +kernel) ?_
    (repeat (with_reducible first | refine r_v2 ?_ | refine r_C ?_ | refine r_op ?_ | refine r_cons ?_))
    refine r_ixL (Same.seq S2 z0) (atI_nat (j := 0) rfl) ?_
    (repeat (with_reducible refine r_nil ?_))
    refine ⟨dk, dl, n, tl, name, l, rfl, D2, hl, fun pl epl => ?_⟩
    (repeat (with_reducible first | refine r_v1 ?_ | refine r_gn4 ?_ | refine r_seq ?_ | refine r_asg ?_ | refine r_C ?_ | refine r_op ?_))
    refine ⟨T.d_ANSWERS, word, .ref f, rfl, rfl, kA, ?_⟩
    (repeat (with_reducible first | refine r_gn5 ?_ | refine r_ret ?_))
    refine ⟨f, _, rfl, kS, ?_⟩
    (repeat (with_reducible first | refine r_v3 ?_ | refine r_v4 ?_ | refine r_cons ?_ | refine r_nil ?_))
    exact ⟨pl, t2, l.1, l.2.1, l.2.2, ns, rfl, .inl (.inl epl), m0, sa, sb, sm, .inl (.inl e2), szn, hc, TabS.same tab S2, fun t vs rows H' x tab' ha e r l1 hz => q t vs rows H' (Ex.trans (Ex.of S2) x) tab' ha e r l1 hz⟩

theorem word_not {word form : Str} {c : CondR} {a : AnsR} (h : WordR word form c a) : word ≠ "line" ∧ word ≠ "points" := by
  cases h <;> exact ⟨by decide +kernel, by decide +kernel⟩
/-! ### Desk_ask -/

def sp_Desk_ask {w : World} {K : PySem.W.Frag} {mg : Str → Option Value} {base : Heap} (T : Top w K mg base) : Sp := fun vs H Q _ => ∃ (dk dl : Addr) (n : Nat) (tl : Str → Option Ln3) (line : Str), vs = [.ref dk, .str line] ∧ line.length ≤ 5000 ∧ DeskAt T.c_Desk H dk dl n tl ∧ LamX.TabS H T.p_in_order_ lq_in_order ∧ (
  (∃ (name : Str) (l : Ln3), n ≤ 1000 ∧ Txt.split line " " = [("line" : Str), name, num l.1, num l.2.1, num l.2.2] ∧ NameT name ∧ 0 < l.2.2 ∧ l.1.natAbs < 10 ^ 60 ∧ l.2.1.natAbs < 10 ^ 60 ∧ l.2.2.natAbs < 10 ^ 60 ∧ ∀ t H', Off dl H H' → DeskAt T.c_Desk H' dk dl (n + 1) (putT tl name l) → H' t = some (.lst []) → Q (.ref t) H') ∨
  (∃ (name word form : Str) (l : Ln3) (ns : List Int) (c : CondR) (a : AnsR), Txt.split line " " = word :: name :: ns.map num ∧ tl name = some l ∧ 0 < l.2.2 ∧ Sz 300 l.1 ∧ Sz 300 l.2.1 ∧ Sz 300 l.2.2 ∧ WordR word form c a ∧ Fits ns form ∧ c l.1 l.2.1 l.2.2 ns ∧
    ∀ (t : Addr) (rows : List (List Int)) H', Ex H H' → NewA H t → LamX.TabS H' T.p_in_order_ lq_in_order → a l.1 l.2.1 l.2.2 ns rows → H' t = some (.lst ((rows.map rowT).map V.str)) → Q (.ref t) H') ∨
  (∃ (n1 n2 : List Str) (ab be : List Ln3) (low high : Int), Txt.split line " " = ("points" : Str) :: num low :: num high :: (n1 ++ (";" : Str) :: n2) ∧ 1 ≤ n1.length ∧ n1.length ≤ 4 ∧ 1 ≤ n2.length ∧ n2.length ≤ 4 ∧ (";" : Str) ∉ n1 ∧ (";" : Str) ∉ n2 ∧ LinesOf tl n1 ab ∧ LinesOf tl n2 be ∧ Gd ab ∧ Gd be ∧ low.natAbs < 10 ^ 60 ∧ high.natAbs < 10 ^ 60 ∧ low ≤ high ∧
    ∀ (t : Addr) H', Same H H' → H' t = some (.lst [.str (rowT [ptsZ ab be low high])]) → Q (.ref t) H'))
theorem ok_Desk_ask {P : Program} {w : World} {K : PySem.W.Frag} {mg : Str → Option Value} {base : Heap} (T : Top w K mg base) : FnOk P w K mg base CX0 12 T.f_Desk_ask T.fd_Desk_ask ["self", "line"] (sp_Desk_ask T) := by
  refine T.F_Desk_ask.ok sc_Desk_ask (fun vs H Q E h => ?_) (fun cdv A outer s H vs Q E hr h => ?_)
  · rcases h with ⟨dk, dl, n, tl, line, rfl, _⟩ <;> rfl
  · obtain ⟨dk, dl, n, tl, line, rfl, hlen, D, tab, hh⟩ := h
    refine ⟨_, (pss_cons (ps_set (i := 2) sc_Desk_ask.nd rfl (Or.inl rfl) (pe_split (pv 1) pe_str))
  (pss_cons (ps_if (pt_cmpR op_eq (pe_ix ix_list (pv 2) pe_int (fun _ _ => rfl)) pe_str (nomark _)) (pss_cons (ps_expr (pe_meth (pv 0) T.cl_Desk T.m_Desk_put_line (ok_Desk_put_line T) (hr.mono (by decide)) T.b_Desk_put_line .nil pass0 (pa_cons (pe_slice sl_list (pv 2) (po_some pe_int) po_none) pa_nil)))
  (pss_one (ps_ret (pe_lst pa_nil)))) pss_nil)
  (pss_cons (ps_if (pt_cmpR op_eq (pe_ix ix_list (pv 2) pe_int (fun _ _ => rfl)) pe_str (nomark _)) (pss_one (ps_ret (pe_call (ok_shown T) (hr.mono (by decide)) (by rfl) T.g_shown T.F_shown.kp T.b_shown .nil pass0 (pa_cons (pe_meth (pv 0) T.cl_Desk T.m_Desk_points_rows (ok_Desk_points_rows T) (hr.mono (by decide)) T.b_Desk_points_rows .nil pass0 (pa_cons (pe_slice sl_list (pv 2) (po_some pe_int) po_none) pa_nil)) pa_nil)))) pss_nil)
  (pss_one (ps_ret (pe_call (ok_shown T) (hr.mono (by decide)) (by rfl) T.g_shown T.F_shown.kp T.b_shown .nil pass0 (pa_cons (pe_meth (pv 0) T.cl_Desk T.m_Desk_rows_of_one (ok_Desk_rows_of_one T) (hr.mono (by decide)) T.b_Desk_rows_of_one .nil pass0 (pa_cons (pe_ix ix_list (pv 2) pe_int (fun _ _ => rfl)) (pa_cons (pe_slice sl_list (pv 2) (po_some pe_int) po_none) pa_nil))) pa_nil))))))), ?_⟩
    try rw [st_Desk_ask]

    have bl : (" " : Str).length = 1 := by decide +kernel
    (repeat (with_reducible first | refine r_v1 ?_ | refine r_seq ?_ | refine r_asg ?_ | refine r_C ?_ | refine r_m1 ?_ | refine r_isStr ?_ | refine r_s2 ?_))
    refine ⟨by rw [bl]; rfl, Nat.le_trans (Nat.add_le_add_right hlen 2) (by decide), r_newS fun p0 H0 n0 s0 e0 => ?_⟩
    have D0 := D.ex (Ex.of s0)
    rcases hh with ⟨name, l, hn, hsp, hname, m0, la, lb, lm, q⟩ | ⟨name, word, form, l, ns, c, a, hsp, hl, m0, sa, sb, sm, hw, fits, hc, q⟩ | ⟨n1, n2, ab, be, low, high, hsp, a1, a4, b1, b4, c1, c2, La, Lb, ga, gb, hlow, hhigh, lh, q⟩
    · rw [hsp] at e0
      have z0 : SqL K H0 p0 [.str "line", .str name, .str (num l.1), .str (num l.2.1), .str (num l.2.2)] := .inl (.inl e0)
      (repeat (first | (with_reducible first | refine r_v2 ?_ | refine r_gn2 ?_ | refine r_seq ?_ | refine r_C ?_ | refine r_op ?_ | refine r_if ?_ | refine r_test ?_ | refine r_bl ?_ | refine r_eqStr ?_) | ((with_reducible refine' r_ixL ?zzs ?zze ?_); (case zzs => first | assumption | exact SqL.of (by assumption)); (case zze => exact rfl))))
      refine r_ite (fun _ => ?_) (fun h => absurd rfl h)
      (repeat (with_reducible first | refine r_v0 ?_ | refine r_seq ?_ | refine r_drop ?_ | refine r_meth ?_))
      refine desk_meth D0 (by decide +kernel) ?_
      (repeat (with_reducible first | refine r_v2 ?_ | refine r_C ?_ | refine r_cons ?_ | refine r_sl ?_ | refine r_nopart ?_ | refine r_part ?_ | refine r_parti ?_))
      refine r_slL z0 fun p1 H1 n1 s1 e1 => ?_
      rw [show (1 : Int) = ((1 : Nat) : Int) from rfl, cut_dropD (show 1 ≤ 5 by decide)] at e1
      (repeat (with_reducible refine r_nil ?_))
      refine ⟨dk, dl, p1, n, tl, name, l, rfl, D0.ex (Ex.of s1), hn, .inl (.inl e1), hname, m0, la, lb, lm, fun H2 off D2 => ?_⟩
      (repeat (with_reducible first | refine r_ret ?_ | refine r_nil ?_ | refine r_lst ?_))
      refine r_lit fun p3 H3 n3 s3 e3 => ?_
      exact q p3 H3 (fun b o h hb => s3 _ _ (off b o (s1 _ _ (s0 _ _ h)) hb)) (D2.ex (Ex.of s3)) e3
    · rw [hsp] at e0
      have z0 : SqL K H0 p0 (.str word :: .str name :: (ns.map num).map V.str) := .inl (.inl e0)
      obtain ⟨w1, w2⟩ := word_not hw
      (repeat (with_reducible first | refine r_v2 ?_ | refine r_gn2 ?_ | refine r_seq ?_ | refine r_C ?_ | refine r_op ?_ | refine r_if ?_ | refine r_test ?_))
      refine r_ixL z0 (atI_nat (j := 0) rfl) ?_
      (repeat (with_reducible first | refine r_C ?_ | refine r_bl ?_ | refine r_eqStr ?_))
      refine r_ite (fun h => absurd (V.str.inj h) w1) (fun _ => ?_)
      (repeat (with_reducible first | refine r_v2 ?_ | refine r_seq ?_ | refine r_next ?_ | refine r_C ?_ | refine r_op ?_ | refine r_if ?_ | refine r_test ?_))
      refine r_ixL z0 (atI_nat (j := 0) rfl) ?_
      (repeat (with_reducible first | refine r_C ?_ | refine r_bl ?_ | refine r_eqStr ?_))
      refine r_ite (fun h => absurd (V.str.inj h) w2) (fun _ => ?_)
      (repeat (with_reducible first | refine r_v0 ?_ | refine r_next ?_ | refine r_ret ?_ | refine r_cons ?_ | refine r_call ?_ | refine r_meth ?_))
      refine desk_meth D0 (by decide +kernel) ?_
      (repeat (with_reducible first | refine r_v2 ?_ | refine r_C ?_ | refine r_op ?_ | refine r_cons ?_))
      refine r_ixL z0 (atI_nat (j := 0) rfl) ?_
      (repeat (with_reducible first | refine r_v2 ?_ | refine r_C ?_ | refine r_cons ?_ | refine r_sl ?_ | refine r_nopart ?_ | refine r_part ?_ | refine r_parti ?_))
      refine r_slL z0 fun p1 H1 n1 s1 e1 => ?_
      rw [show (1 : Int) = ((1 : Nat) : Int) from rfl, cut_dropD (Nat.succ_le_succ (Nat.zero_le _))] at e1
      (repeat (with_reducible refine r_nil ?_))
      refine ⟨dk, dl, p1, n, tl, name, word, form, l, ns, c, a, rfl, D0.ex (Ex.of s1), hl, m0, sa, sb, sm, hw, .inl (.inl e1), fits, hc, TabS.same tab (s0.trans s1), fun t vs rows H2 x2 tab2 ha e2 r2 l2 hz2 => ?_⟩
      (repeat (with_reducible refine r_nil ?_))
      refine ⟨t, vs, rows, rfl, .inl (.inl e2), r2, by omega, fun r hr => ⟨by have := (hz2 r hr).1; omega, (hz2 r hr).2⟩, fun t3 H3 s3 n3 e3 => ?_⟩
      exact q t3 rows H3 (Ex.trans (Ex.of (s0.trans s1)) (Ex.trans x2 (Ex.of s3))) (NewA.of (Ex.trans (Ex.of (s0.trans s1)) x2) n3) (TabS.same tab2 s3) ha e3
    · rw [hsp] at e0
      have z0 : SqL K H0 p0 (.str "points" :: (num low :: num high :: (n1 ++ (";" : Str) :: n2)).map V.str) := .inl (.inl e0)
      have lna := La.len
      have lnb := Lb.len
      have sz : ∀ {z : Int}, z.natAbs < 10 ^ 60 → Sz 300 z := fun {z} h => by
        have h2 : (10 : Nat) ^ 60 ≤ 2 ^ 200 := by decide
        exact Sz.mono (a := 200) (show z.natAbs < 2 ^ 200 by omega) (by decide)
      have npl : ¬ ("points" : Str) = "line" := by decide +kernel
      (repeat (with_reducible first | refine r_v2 ?_ | refine r_gn2 ?_ | refine r_seq ?_ | refine r_C ?_ | refine r_op ?_ | refine r_if ?_ | refine r_test ?_))
      refine r_ixL z0 (atI_nat (j := 0) rfl) ?_
      (repeat (with_reducible first | refine r_C ?_ | refine r_bl ?_ | refine r_eqStr ?_))
      refine r_ite (fun h => absurd (V.str.inj h) npl) (fun _ => ?_)
      (repeat (with_reducible first | refine r_v2 ?_ | refine r_seq ?_ | refine r_next ?_ | refine r_C ?_ | refine r_op ?_ | refine r_if ?_ | refine r_test ?_))
      refine r_ixL z0 (atI_nat (j := 0) rfl) ?_
      (repeat (with_reducible first | refine r_C ?_ | refine r_bl ?_ | refine r_eqStr ?_))
      refine r_ite (fun _ => ?_) (fun h => absurd rfl h)
      (repeat (with_reducible first | refine r_v0 ?_ | refine r_ret ?_ | refine r_cons ?_ | refine r_call ?_ | refine r_meth ?_))
      refine desk_meth D0 (by decide +kernel) ?_
      (repeat (with_reducible first | refine r_v2 ?_ | refine r_C ?_ | refine r_cons ?_ | refine r_sl ?_ | refine r_nopart ?_ | refine r_part ?_ | refine r_parti ?_))
      refine r_slL z0 fun p1 H1 n1' s1 e1 => ?_
      rw [show (1 : Int) = ((1 : Nat) : Int) from rfl, cut_dropD (Nat.succ_le_succ (Nat.zero_le _))] at e1
      (repeat (with_reducible refine r_nil ?_))
      refine ⟨dk, dl, p1, n, tl, n1, n2, ab, be, low, high, rfl, D0.ex (Ex.of s1), .inl (.inl e1), a1, a4, b1, b4, c1, c2, La, Lb, ga, gb, hlow, hhigh, lh, fun t vs H2 s2 e2 r2 => ?_⟩
      (repeat (with_reducible refine r_nil ?_))
      refine ⟨t, vs, _, rfl, .inl (.inl e2), r2, (show 1 ≤ 5000 by decide), fun r hr => ?_, fun t3 H3 s3 n3 e3 => ?_⟩
      · rw [List.mem_singleton.mp hr]
        refine ⟨(show 1 ≤ 10 by decide), fun z hz => ?_⟩
        rw [List.mem_singleton.mp hz]
        exact sz_ptsZ ga gb (by omega) (by omega) lh (sz hlow) (sz hhigh)
      exact q t3 H3 (((s0.trans s1).trans s2).trans s3) e3

theorem max_facts {n : Nat} : (0 : Int) < (if (n : Int) > 1 then (n : Int) else 1) ∧ (if (n : Int) > 1 then (n : Int) else 1) ≤ (n : Int) + 1 := by
  split <;> omega
def cutD (cell : Int) : Nat → Int
  | 0 => cell
  | n + 1 => cutD cell n / 1000003
def sizeD (ns : List Int) : Int := if (ns.length : Int) > 1 then (ns.length : Int) else 1
def cellD (ns : List Int) (k : Int) : Int := ((ns ++ [0])[(k % sizeD ns).toNat]?).getD 0
def mixD (cell turn : Int) : Int := (cell % 2147483629 + 17 + 68209 * turn) * 47791 % 2147483629
def drawG (cell turn : Int) : Int := if (10 : Int) ^ (18 : Int).toNat ≤ cell ∨ cell ≤ -10 ^ (18 : Int).toNat then cutD cell (if 60 < turn then (60 : Int) else turn).toNat % 1000003 else mixD cell turn * mixD cell turn % 2147483587 * 38839 % 2147483579
/-- the number that the script gives at a place -/
def drawF (ns : List Int) (k : Int) : Int := drawG (cellD ns k) (k / sizeD ns)
/-! ### _law_draw -/

def sp__law_draw (K : PySem.W.Frag) : Sp := fun vs H Q _ => ∃ (a : Addr) (ns : List Int) (k : Int), vs = [.ref a, .int k] ∧ SqL K H a (ns.map V.int) ∧ ns.length ≤ 63 ∧ 0 ≤ k ∧ k < 1000000 ∧ ∀ x H', Same H H' → 0 ≤ x → x < 2147483629 ∧ x = drawF ns k → Q (.int x) H'
theorem ok__law_draw {P : Program} {w : World} {K : PySem.W.Frag} {mg : Str → Option Value} {base : Heap} (T : Top w K mg base) : FnOk P w K mg base CX0 1 T.f__law_draw T.fd__law_draw ["script", "k"] (sp__law_draw K) := by
  refine T.F__law_draw.ok sc__law_draw (fun vs H Q E h => ?_) (fun cdv A outer s H vs Q E hr h => ?_)
  · rcases h with ⟨a, ns, k, rfl, _⟩ <;> rfl
  · obtain ⟨a, ns, k, rfl, hS, hl, hk0, hk1, q⟩ := h
    refine ⟨_, (pss_cons (ps_set (i := 2) sc__law_draw.nd rfl (Or.inl rfl) (pe_callB (call_max2 rfl) (by rfl) T.n_max (by decide +kernel) (pa_cons pe_int (pa_cons (pe_callB call_len_seq (by rfl) T.n_len PySem.boot_len (pa_cons (pv 0) pa_nil)) pa_nil))))
  (pss_cons (ps_set (i := 3) sc__law_draw.nd rfl (Or.inl rfl) (pe_ix ix_list (pe_op op_cat (pe_callTy call_listN (by rfl) T.n_list (by decide +kernel) (pa_cons (pv 0) pa_nil)) (pe_lst (pa_cons pe_int pa_nil))) (pe_op op_mod (pv 1) (pv 2)) (fun _ _ => rfl)))
  (pss_cons (ps_if (PW.pt (pw_or (pt_cmpR op_ge (pv 3) (pe_op op_pow pe_int pe_int) (nomark _)) (pw_or1 (pt_cmpR op_le (pv 3) (pe_un un_neg (pe_op op_pow pe_int pe_int)) (nomark _))))) (pss_cons (ps_for PassesOwn.never rfl (pi_range1 (by rfl) T.n_range (pa_cons (pe_callB (call_min2 rfl) (by rfl) T.n_min (by decide +kernel) (pa_cons (pe_op op_fdivW (pv 1) (pv 2)) (pa_cons pe_int pa_nil))) pa_nil)) (pg_name (i := 4) sc__law_draw.nd rfl (Or.inl rfl))
  (pss_one (ps_set (i := 3) sc__law_draw.nd rfl (Or.inl rfl) (pe_op op_fdivW (pv 3) pe_int))))
  (pss_one (ps_ret (pe_op op_mod (pv 3) pe_int)))) pss_nil)
  (pss_cons (ps_set (i := 5) sc__law_draw.nd rfl (Or.inl rfl) (pe_op op_mod (pe_op op_mulG (pe_op op_add (pe_op op_add (pe_op op_mod (pv 3) pe_int) pe_int) (pe_op op_mulG pe_int (pe_op op_fdivW (pv 1) (pv 2)))) pe_int) pe_int))
  (pss_cons (ps_set (i := 5) sc__law_draw.nd rfl (Or.inl rfl) (pe_op op_mod (pe_op op_mulG (pv 5) (pv 5)) pe_int))
  (pss_one (ps_ret (pe_op op_mod (pe_op op_mulG (pv 5) pe_int) pe_int)))))))), ?_⟩
    try rw [st__law_draw]

    (repeat (with_reducible first | refine r_v0 ?_ | refine r_seq ?_ | refine r_asg ?_ | refine r_C ?_ | refine r_cons ?_ | refine r_nil ?_ | refine r_CB ?_))
    refine r_lenL hS ?_
    rw [List.length_map]
    obtain ⟨m0, m1⟩ := max_facts (n := ns.length)
    (repeat (with_reducible first | refine r_v0 ?_ | refine r_gn2 ?_ | refine r_seq ?_ | refine r_asg ?_ | refine r_op ?_ | refine r_cons ?_ | refine r_nil ?_ | refine r_CB ?_ | refine r_max2 ?_))
    obtain ⟨size, hsz⟩ : ∃ z, sizeD ns = z := ⟨_, rfl⟩
    rw [show (if (ns.length : Int) > 1 then (ns.length : Int) else 1) = size from hsz] at m0 m1 ⊢
    refine r_listOf hS fun p1 H1 n1 s1 e1 => ?_
    (repeat (with_reducible first | refine r_C ?_ | refine r_cons ?_ | refine r_nil ?_ | refine r_lst ?_))
    refine r_lit fun p2 H2 n2 s2 e2 => ?_
    refine r_cat (s2 _ _ e1) e2 (by rw [List.length_map]; show ns.length + 1 ≤ 1000; omega) fun p3 H3 n3 s3 e3 => ?_
    have s03 := (s1.trans s2).trans s3
    have e3 : H3 p3 = some (.lst ((ns ++ [0]).map V.int)) := by
      rw [e3, List.map_append]
      rfl
    have k0 := Int.emod_nonneg k (b := size) (by omega)
    have k1 := Int.emod_lt_of_pos k m0
    have lg : CDivW k size := ⟨m0, lg_ok m0 (Sz.of (b := 20) (c := 1000) (by omega) (by omega) (by decide))⟩
    obtain ⟨cell, hc⟩ := at_int0 (cs := ns ++ [0]) k0 (by rw [List.length_append]; show _ < ((ns.length + 1 : Nat) : Int); omega)
    have ecell : cellD ns k = cell := by
      unfold cellD
      rw [hsz]
      obtain ⟨j, hj⟩ : ∃ j : Nat, k % size = (j : Int) := ⟨(k % size).toNat, by omega⟩
      have jl : j < (ns ++ [0]).length := by rw [List.length_append]; show j < ns.length + 1; omega
      rw [hj, at_int jl] at hc
      rw [hj, Int.toNat_natCast, List.getElem?_eq_getElem jl]
      simpa using hc
    have fin : drawF ns k = drawG cell (k / size) := by
      unfold drawF
      rw [ecell, hsz]
    (repeat (first | (with_reducible first | refine r_v1 ?_ | refine r_v2 ?_ | refine r_op ?_) | ((with_reducible refine r_I ?zzc ?_); (case zzc => first | with_reducible assumption | ((with_reducible apply mul_okA); (repeat' (first | with_reducible assumption | with_reducible apply Sz.mul | with_reducible apply Sz.addM | with_reducible apply Sz.subM | with_reducible apply Sz.neg | exact Sz.lit | decide)); done) | (show (0 : Int) < _; first | with_reducible assumption | decide | omega) | exact mul_okL | exact mul_okR | exact mul_okM | (exact div_ok (by with_reducible assumption) (by with_reducible assumption)) | (exact ⟨by with_reducible assumption, by with_reducible assumption⟩) | (exact ⟨by decide, by decide, by decide⟩) | (exact ⟨by decide, by decide⟩)))))
    refine r_ixL (.inl (.inl e3)) hc ?_
    have cp : CPow 10 18 := ⟨by decide, by decide, by decide⟩
    have cd3 : ∀ i : Int, CDivW i 1000003 := fun i => ⟨by decide, by decide +kernel⟩
    have cd4 : ∀ i : Int, CDivW i 2147483629 := fun i => ⟨by decide, by decide +kernel⟩
    have cd5 : ∀ i : Int, CDivW i 2147483587 := fun i => ⟨by decide, by decide +kernel⟩
    have cd6 : ∀ i : Int, CDivW i 2147483579 := fun i => ⟨by decide, by decide +kernel⟩
    have d0 : 0 ≤ k / size := Int.ediv_nonneg hk0 (by omega)
    have d1 : k / size ≤ k := Int.ediv_le_self _ hk0
    have c1 := cd4 k
    have mt : ∀ turn : Int, 0 ≤ turn → turn ≤ k → -(2 ^ 62) ≤ (if 60 < turn then (60 : Int) else turn) ∧ (if 60 < turn then (60 : Int) else turn) < 2 ^ 62 := by
      intro turn _ _
      split <;> omega
    have mt := mt _ d0 d1
    (repeat' (first | (with_reducible refine r_ite (fun _ => ?_) (fun _ => ?_)) | (with_reducible first | refine r_v1 ?_ | refine r_v2 ?_ | refine r_v3 ?_ | refine r_v5 ?_ | refine r_gn3 ?_ | refine r_gn5 ?_ | refine r_seq ?_ | refine r_next ?_ | refine r_asg ?_ | refine r_C ?_ | refine r_op ?_ | refine r_un ?_ | refine r_I0 ?_ | refine r_U ?_ | refine r_ret ?_ | refine r_if ?_ | refine r_test ?_ | refine r_bl ?_ | refine r_or ?_ | refine r_cons ?_ | refine r_nil ?_ | refine r_CB ?_ | refine r_for ?_ | refine r_rng1 ?_ | refine iteT ?_ | refine r_max2 ?_) | ((with_reducible refine r_I ?zzc ?_); (case zzc => first | with_reducible assumption | ((with_reducible apply mul_okA); (repeat' (first | with_reducible assumption | with_reducible apply Sz.mul | with_reducible apply Sz.addM | with_reducible apply Sz.subM | with_reducible apply Sz.neg | exact Sz.lit | decide)); done) | (show (0 : Int) < _; first | with_reducible assumption | decide | omega) | exact mul_okL | exact mul_okR | exact mul_okM | (exact div_ok (by with_reducible assumption) (by with_reducible assumption)) | (exact ⟨by with_reducible assumption, by with_reducible assumption⟩) | (exact ⟨by decide, by decide, by decide⟩) | (exact ⟨by decide, by decide⟩)))))
    rotate_left 2
    · refine q _ _ s03 (Int.emod_nonneg _ (by decide)) ⟨Int.lt_trans (Int.emod_lt_of_pos _ (by decide)) (by decide), ?_⟩
      rw [fin]
      unfold drawG mixD
      exact (if_neg (by omega)).symm
    all_goals
      refine ⟨_, rfl, mt.1, mt.2, ?_⟩
      refine loop_range (fun i σ H' => ∃ (rest : Int) (v4 : Option V), σ = [some (.ref a), some (.int k), some (.int size), some (.int rest), v4, none] ∧ H' = H3 ∧ rest = cutD cell i) ⟨_, none, rfl, rfl, rfl⟩ ?_ ?_
      · rintro i σ H' hi ⟨rest, v4, rfl, rfl, er⟩
        have := cd3 rest
        (repeat (first | (with_reducible first | refine r_v3 ?_ | refine r_gn3 ?_ | refine r_gn4 ?_ | refine r_asg ?_ | refine r_C ?_ | refine r_op ?_) | ((with_reducible refine r_I ?zzc ?_); (case zzc => first | with_reducible assumption | ((with_reducible apply mul_okA); (repeat' (first | with_reducible assumption | with_reducible apply Sz.mul | with_reducible apply Sz.addM | with_reducible apply Sz.subM | with_reducible apply Sz.neg | exact Sz.lit | decide)); done) | (show (0 : Int) < _; first | with_reducible assumption | decide | omega) | exact mul_okL | exact mul_okR | exact mul_okM | (exact div_ok (by with_reducible assumption) (by with_reducible assumption)) | (exact ⟨by with_reducible assumption, by with_reducible assumption⟩) | (exact ⟨by decide, by decide, by decide⟩) | (exact ⟨by decide, by decide⟩)))))
        exact ⟨_, _, rfl, rfl, by rw [er]; rfl⟩
      · rintro σ H' ⟨rest, v4, rfl, rfl, er⟩
        (repeat (first | (with_reducible first | refine r_v3 ?_ | refine r_C ?_ | refine r_op ?_ | refine r_ret ?_) | ((with_reducible refine r_I ?zzc ?_); (case zzc => first | with_reducible assumption | ((with_reducible apply mul_okA); (repeat' (first | with_reducible assumption | with_reducible apply Sz.mul | with_reducible apply Sz.addM | with_reducible apply Sz.subM | with_reducible apply Sz.neg | exact Sz.lit | decide)); done) | (show (0 : Int) < _; first | with_reducible assumption | decide | omega) | exact mul_okL | exact mul_okR | exact mul_okM | (exact div_ok (by with_reducible assumption) (by with_reducible assumption)) | (exact ⟨by with_reducible assumption, by with_reducible assumption⟩) | (exact ⟨by decide, by decide, by decide⟩) | (exact ⟨by decide, by decide⟩)))))
        refine q _ _ s03 (Int.emod_nonneg _ (by decide)) ⟨Int.lt_trans (Int.emod_lt_of_pos _ (by decide)) (by decide), ?_⟩
        rw [fin, er]
        unfold drawG
        exact (if_pos (by omega)).symm

theorem log_okD {i : Int} {b : Nat} (h : Sz b i) (hb : b < 1900 := by decide) : i.natAbs.log2 < 1920 := by
  have x := PySem.Flt.log2_lt_of (Nat.succ_pos b) (h.mono (Nat.le_succ b))
  omega
/-! ### _law_number -/

def sp__law_number (K : PySem.W.Frag) : Sp := fun vs H Q _ => ∃ (a : Addr) (ns : List Int) (k most : Int), vs = [.ref a, .int k, .int most] ∧ SqL K H a (ns.map V.int) ∧ ns.length ≤ 63 ∧ 0 ≤ k ∧ k < 900000 ∧ 1 ≤ most ∧ most ≤ 60 ∧ ∀ (x : Int) (e : Nat) H', Same H H' → 0 ≤ x → (e : Int) ≤ most → x < 10 ^ e → Q (.int x) H'
theorem ok__law_number {P : Program} {w : World} {K : PySem.W.Frag} {mg : Str → Option Value} {base : Heap} (T : Top w K mg base) : FnOk P w K mg base CX0 2 T.f__law_number T.fd__law_number ["script", "at", "most"] (sp__law_number K) := by
  refine T.F__law_number.ok sc__law_number (fun vs H Q E h => ?_) (fun cdv A outer s H vs Q E hr h => ?_)
  · rcases h with ⟨a, ns, k, most, rfl, _⟩ <;> rfl
  · obtain ⟨a, ns, k, most, rfl, hS, hl, hk0, hk1, hm0, hm1, q⟩ := h
    refine ⟨_, (pss_cons (ps_set (i := 3) sc__law_number.nd rfl (Or.inl rfl) (pe_op op_add pe_int (pe_op op_mod (pe_call (ok__law_draw T) (hr.mono (by decide)) (by rfl) T.g__law_draw T.F__law_draw.kp T.b__law_draw .nil pass0 (pa_cons (pv 0) (pa_cons (pv 1) pa_nil))) (pv 2))))
  (pss_one (ps_ret (pe_callTy call_int_str (by rfl) T.n_int (by decide +kernel) (pa_cons (pe_m1 PySem.F.slot_str_join PySem.F.type_str_join mt_join pe_str (pe_lc (own := [("k", 4)]) (g := gName 4) (tt := tYes) (by rfl) sc__law_number.nd (pi_range1 (by rfl) T.n_range (pa_cons (pv 3) pa_nil)) (blkOk_by (own := [("k", 4)]) (N := N__law_number) (sc := defScope s__law_number) (by decide +kernel)) (fun _ _ _ _ _ => pg_name (i := 4) sc__law_number.nd rfl (Or.inl rfl)) (fun _ _ _ _ _ => pts_nil) (fun _ _ _ _ _ => (pe_callTy call_str_int (by rfl) T.n_str (by decide +kernel) (pa_cons (pe_op op_mod (pe_call (ok__law_draw T) (hr.mono (by decide)) (by rfl) T.g__law_draw T.F__law_draw.kp T.b__law_draw .nil pass0 (pa_cons (pv 0) (pa_cons (pe_op op_add (pe_op op_add (pv 1) pe_int) (pv 4)) pa_nil))) pe_int) pa_nil))))) pa_nil))))), ?_⟩
    try rw [st__law_number]

    (repeat (with_reducible first | refine r_v0 ?_ | refine r_v1 ?_ | refine r_seq ?_ | refine r_asg ?_ | refine r_C ?_ | refine r_op ?_ | refine r_cons ?_ | refine r_nil ?_ | refine r_call ?_))
    refine ⟨a, ns, _, rfl, hS, hl, hk0, by omega, fun x1 H1 s1 x10 x11 => ?_⟩
    have f0 := Int.emod_nonneg x1 (b := most) (by omega)
    have f1 := Int.emod_lt_of_pos x1 (b := most) (by omega)
    (repeat (first | (with_reducible first | refine r_v2 ?_ | refine r_v3 ?_ | refine r_gn3 ?_ | refine r_C ?_ | refine r_I0 ?_ | refine r_ret ?_ | refine r_cons ?_ | refine r_nil ?_ | refine r_CB ?_ | refine r_rng1 ?_ | refine r_lc ?_ | refine r_m1 ?_ | refine r_isStr ?_) | ((with_reducible refine r_I ?zzc ?_); (case zzc => first | with_reducible assumption | ((with_reducible apply mul_okA); (repeat' (first | with_reducible assumption | with_reducible apply Sz.mul | with_reducible apply Sz.addM | with_reducible apply Sz.subM | with_reducible apply Sz.neg | exact Sz.lit | decide)); done) | (show (0 : Int) < _; first | with_reducible assumption | decide | omega) | exact mul_okL | exact mul_okR | exact mul_okM | (exact div_ok (by with_reducible assumption) (by with_reducible assumption)) | (exact ⟨by with_reducible assumption, by with_reducible assumption⟩) | (exact ⟨by decide, by decide, by decide⟩) | (exact ⟨by decide, by decide⟩)))))
    refine ⟨_, rfl, by omega, by omega, ?_⟩
    obtain ⟨many, hmany⟩ : ∃ g : Nat, g = (1 + x1 % most).toNat := ⟨_, rfl⟩
    have hmi : (many : Int) = 1 + x1 % most := by omega
    rw [← hmany]
    intro D nD
    refine lc_ok_range (fun i H' => Same H H' ∧ ∃ ds : List Nat, H' D = some (.lst ((dgs ds).map V.str)) ∧ ds.length = i ∧ ∀ d ∈ ds, d < 10) ?_ ?_ ?_
    · exact ⟨s1.trans (same_upd nD), [], upd_same, rfl, fun d hd => nomatch hd⟩
    · rintro i H2 hi ⟨s2, ds, e2, ld, hd⟩
      (repeat ((with_reducible refine' r_gname ?zze ?_); (case zze => exact rfl)))
      refine ⟨rfl, ?_⟩
      (repeat (first | (with_reducible first | refine r_C ?_ | refine r_op ?_ | refine r_I0 ?_ | refine r_cons ?_ | refine r_nil ?_ | refine r_call ?_ | refine r_CB ?_ | refine iteT ?_ | refine r_yes ?_) | ((with_reducible refine' r_var ?zze ?_); (case zze => exact rfl))))
      refine ⟨a, ns, _, rfl, Same.seq s2 hS, hl, by omega, by omega, fun x2 H3 s3 x20 x21 => ?_⟩
      have g0 := Int.emod_nonneg x2 (b := 10) (by decide)
      have g1 := Int.emod_lt_of_pos x2 (b := 10) (by decide)
      (repeat (first | (with_reducible first | refine r_C ?_ | refine r_nil ?_) | ((with_reducible refine r_I ?zzc ?_); (case zzc => first | with_reducible assumption | ((with_reducible apply mul_okA); (repeat' (first | with_reducible assumption | with_reducible apply Sz.mul | with_reducible apply Sz.addM | with_reducible apply Sz.subM | with_reducible apply Sz.neg | exact Sz.lit | decide)); done) | (show (0 : Int) < _; first | with_reducible assumption | decide | omega) | exact mul_okL | exact mul_okR | exact mul_okM | (exact div_ok (by with_reducible assumption) (by with_reducible assumption)) | (exact ⟨by with_reducible assumption, by with_reducible assumption⟩) | (exact ⟨by decide, by decide, by decide⟩) | (exact ⟨by decide, by decide⟩)))))
      generalize x2 % 10 = g at g0 g1
      obtain ⟨d, rfl⟩ : ∃ d : Nat, g = (d : Int) := ⟨g.toNat, by omega⟩
      refine ⟨_, rfl, ?_, ?_⟩
      · exact log_okD (Sz.of (b := 10) (c := 100) (by omega) (by omega) (by decide))
      refine acc_mk (s3 _ _ e2) (by rw [List.length_map, show (dgs ds).length = ds.length from List.length_map ..]; omega) fun H4 e4 b4 => ?_
      refine ⟨same_butP (s2.trans s3) ?_ b4, ds ++ [d], ?_, ?_, ?_⟩
      · exact Same.free s1 nD
      · rw [dgs_app]
        exact e4
      · rw [List.length_append, ld]
        rfl
      · intro c hc
        rcases List.mem_append.mp hc with h | h
        · exact hd c h
        · rw [List.mem_singleton.mp h]
          omega
    · rintro H2 ⟨s2, ds, e2, ld, hd⟩
      obtain ⟨n, en, ln, lt⟩ := dgs_read ds hd (by
        rintro rfl
        have : (0 : Nat) = many := ld
        omega) (by omega)
      refine ⟨"", D, dgs ds, rfl, rfl, .inl (.inl (.inl e2)), ?_, ?_⟩
      · rw [dgs_len ds hd, show (dgs ds).length = ds.length from List.length_map .., show ("" : Str).length = 0 from rfl]
        omega
      (repeat (with_reducible refine r_nil ?_))
      refine ⟨_, _, rfl, en, lt, ?_⟩
      refine q _ ds.length _ s2 (by omega) (by omega) ?_
      have : ((n : Nat) : Int) < ((10 ^ ds.length : Nat) : Int) := by omega
      rw [Int.natCast_pow] at this
      exact this

theorem sizes_at {most x : Int} (h0 : 1 ≤ most) (h1 : most ≤ 60) : ∃ s : Int, atI [V.int 1, V.int 2, V.int 5, V.int most] (x % 4) = some (.int s) ∧ 1 ≤ s ∧ s ≤ 60 := by
  have h0 := Int.emod_nonneg x (b := 4) (by decide)
  have h1 := Int.emod_lt_of_pos x (b := 4) (by decide)
  generalize x % 4 = y at h0 h1
  obtain rfl | rfl | rfl | rfl : y = 0 ∨ y = 1 ∨ y = 2 ∨ y = 3 := by omega
  · exact ⟨1, rfl, by omega, by omega⟩
  · exact ⟨2, rfl, by omega, by omega⟩
  · exact ⟨5, rfl, by omega, by omega⟩
  · exact ⟨most, rfl, by omega, by omega⟩
theorem max1D {x : Int} (h : 0 ≤ x) (hz : N60 x) : 0 < (if x > 1 then x else 1) ∧ N60 (if x > 1 then x else 1) := by
  split
  · exact ⟨by omega, hz⟩
  · exact ⟨by omega, show (1 : Int).natAbs < 10 ^ 60 by decide⟩
/-! ### _law_line -/

def sp__law_line (K : PySem.W.Frag) : Sp := fun vs H Q _ => ∃ (p : Addr) (ns : List Int) (k most : Int), vs = [.ref p, .int k, .int most] ∧ SqL K H p (ns.map V.int) ∧ ns.length ≤ 63 ∧ 0 ≤ k ∧ k < 800000 ∧ 1 ≤ most ∧ most ≤ 60 ∧ ∀ (t : Addr) (a b m : Int) H', Same H H' → H' t = some (.tup [.int a, .int b, .int m]) → 0 < m → N60 a → N60 b → N60 m → Q (.ref t) H'
theorem ok__law_line {P : Program} {w : World} {K : PySem.W.Frag} {mg : Str → Option Value} {base : Heap} (T : Top w K mg base) : FnOk P w K mg base CX0 3 T.f__law_line T.fd__law_line ["script", "at", "most"] (sp__law_line K) := by
  refine T.F__law_line.ok sc__law_line (fun vs H Q E h => ?_) (fun cdv A outer s H vs Q E hr h => ?_)
  · rcases h with ⟨p, ns, k, most, rfl, _⟩ <;> rfl
  · obtain ⟨p, ns, k, most, rfl, hS, hl, hk0, hk1, hm0, hm1, q⟩ := h
    refine ⟨_, (pss_cons (ps_set (i := 3) sc__law_line.nd rfl (Or.inl rfl) (pe_tup (pa_cons pe_int (pa_cons pe_int (pa_cons pe_int (pa_cons (pv 2) pa_nil))))))
  (pss_cons (ps_set (i := 4) sc__law_line.nd rfl (Or.inl rfl) (pe_call (ok__law_number T) (hr.mono (by decide)) (by rfl) T.g__law_number T.F__law_number.kp T.b__law_number .nil pass0 (pa_cons (pv 0) (pa_cons (pe_op op_add (pv 1) pe_int) (pa_cons (pe_ix ix_tup (pv 3) (pe_op op_mod (pe_call (ok__law_draw T) (hr.mono (by decide)) (by rfl) T.g__law_draw T.F__law_draw.kp T.b__law_draw .nil pass0 (pa_cons (pv 0) (pa_cons (pv 1) pa_nil))) pe_int) (fun _ _ => rfl)) pa_nil)))))
  (pss_cons (ps_set (i := 5) sc__law_line.nd rfl (Or.inl rfl) (pe_call (ok__law_number T) (hr.mono (by decide)) (by rfl) T.g__law_number T.F__law_number.kp T.b__law_number .nil pass0 (pa_cons (pv 0) (pa_cons (pe_op op_add (pv 1) pe_int) (pa_cons (pe_ix ix_tup (pv 3) (pe_op op_mod (pe_call (ok__law_draw T) (hr.mono (by decide)) (by rfl) T.g__law_draw T.F__law_draw.kp T.b__law_draw .nil pass0 (pa_cons (pv 0) (pa_cons (pe_op op_add (pv 1) pe_int) pa_nil))) pe_int) (fun _ _ => rfl)) pa_nil)))))
  (pss_cons (ps_set (i := 6) sc__law_line.nd rfl (Or.inl rfl) (pe_callB (call_max2 rfl) (by rfl) T.n_max (by decide +kernel) (pa_cons pe_int (pa_cons (pe_call (ok__law_number T) (hr.mono (by decide)) (by rfl) T.g__law_number T.F__law_number.kp T.b__law_number .nil pass0 (pa_cons (pv 0) (pa_cons (pe_op op_add (pv 1) pe_int) (pa_cons (pe_ix ix_tup (pv 3) (pe_op op_mod (pe_call (ok__law_draw T) (hr.mono (by decide)) (by rfl) T.g__law_draw T.F__law_draw.kp T.b__law_draw .nil pass0 (pa_cons (pv 0) (pa_cons (pe_op op_add (pv 1) pe_int) pa_nil))) pe_int) (fun _ _ => rfl)) pa_nil)))) pa_nil))))
  (pss_cons (ps_if (pt_cmpR op_eq (pe_op op_mod (pe_call (ok__law_draw T) (hr.mono (by decide)) (by rfl) T.g__law_draw T.F__law_draw.kp T.b__law_draw .nil pass0 (pa_cons (pv 0) (pa_cons (pe_op op_add (pv 1) pe_int) pa_nil))) pe_int) pe_int (nomark _)) (pss_one (ps_set (i := 4) sc__law_line.nd rfl (Or.inl rfl) (pe_un un_neg (pv 4)))) pss_nil)
  (pss_cons (ps_if (pt_cmpR op_eq (pe_op op_mod (pe_call (ok__law_draw T) (hr.mono (by decide)) (by rfl) T.g__law_draw T.F__law_draw.kp T.b__law_draw .nil pass0 (pa_cons (pv 0) (pa_cons (pe_op op_add (pv 1) pe_int) pa_nil))) pe_int) pe_int (nomark _)) (pss_one (ps_set (i := 5) sc__law_line.nd rfl (Or.inl rfl) (pe_un un_neg (pv 5)))) pss_nil)
  (pss_one (ps_ret (pe_tup (pa_cons (pv 4) (pa_cons (pv 5) (pa_cons (pv 6) pa_nil)))))))))))), ?_⟩
    try rw [st__law_line]

    (repeat (with_reducible first | refine r_v2 ?_ | refine r_seq ?_ | refine r_asg ?_ | refine r_C ?_ | refine r_cons ?_ | refine r_nil ?_ | refine r_tup ?_))
    refine r_litT fun pz H1 nz s1 e1 => ?_
    (repeat (with_reducible first | refine r_v0 ?_ | refine r_v1 ?_ | refine r_v3 ?_ | refine r_gn3 ?_ | refine r_seq ?_ | refine r_asg ?_ | refine r_C ?_ | refine r_op ?_ | refine r_I0 ?_ | refine r_cons ?_ | refine r_nil ?_ | refine r_call ?_))
    refine ⟨p, ns, _, rfl, Same.seq s1 hS, hl, by omega, by omega, fun x1 H2 s2 _ _ => ?_⟩
    obtain ⟨z1, hz1, z10, z11⟩ := sizes_at (x := x1) hm0 hm1
    (repeat (first | (with_reducible refine r_C ?_) | ((with_reducible refine r_I ?zzc ?_); (case zzc => first | with_reducible assumption | ((with_reducible apply mul_okA); (repeat' (first | with_reducible assumption | with_reducible apply Sz.mul | with_reducible apply Sz.addM | with_reducible apply Sz.subM | with_reducible apply Sz.neg | exact Sz.lit | decide)); done) | (show (0 : Int) < _; first | with_reducible assumption | decide | omega) | exact mul_okL | exact mul_okR | exact mul_okM | (exact div_ok (by with_reducible assumption) (by with_reducible assumption)) | (exact ⟨by with_reducible assumption, by with_reducible assumption⟩) | (exact ⟨by decide, by decide, by decide⟩) | (exact ⟨by decide, by decide⟩)))))
    refine r_ixT (.inl (.inl (s2 _ _ e1))) hz1 ?_
    have S2 := s1.trans s2
    (repeat (with_reducible refine r_nil ?_))
    refine ⟨p, ns, _, _, rfl, Same.seq S2 hS, hl, by omega, by omega, z10, z11, fun a e H3 s3 a0 he a1 => ?_⟩
    have sa : N60 a := N60.of a0 (show _ ≤ 60 by omega) a1
    have S3 := S2.trans s3
    (repeat (with_reducible first | refine r_v0 ?_ | refine r_v1 ?_ | refine r_v3 ?_ | refine r_gn4 ?_ | refine r_seq ?_ | refine r_asg ?_ | refine r_C ?_ | refine r_op ?_ | refine r_I0 ?_ | refine r_cons ?_ | refine r_nil ?_ | refine r_call ?_))
    refine ⟨p, ns, _, rfl, Same.seq S3 hS, hl, by omega, by omega, fun x2 H4 s4 _ _ => ?_⟩
    obtain ⟨z2, hz2, z20, z21⟩ := sizes_at (x := x2) hm0 hm1
    (repeat (first | (with_reducible refine r_C ?_) | ((with_reducible refine r_I ?zzc ?_); (case zzc => first | with_reducible assumption | ((with_reducible apply mul_okA); (repeat' (first | with_reducible assumption | with_reducible apply Sz.mul | with_reducible apply Sz.addM | with_reducible apply Sz.subM | with_reducible apply Sz.neg | exact Sz.lit | decide)); done) | (show (0 : Int) < _; first | with_reducible assumption | decide | omega) | exact mul_okL | exact mul_okR | exact mul_okM | (exact div_ok (by with_reducible assumption) (by with_reducible assumption)) | (exact ⟨by with_reducible assumption, by with_reducible assumption⟩) | (exact ⟨by decide, by decide, by decide⟩) | (exact ⟨by decide, by decide⟩)))))
    refine r_ixT (.inl (.inl (s4 _ _ (s3 _ _ (s2 _ _ e1))))) hz2 ?_
    have S4 := S3.trans s4
    (repeat (with_reducible refine r_nil ?_))
    refine ⟨p, ns, _, _, rfl, Same.seq S4 hS, hl, by omega, by omega, z20, z21, fun b e2 H5 s5 b0 he2 b1 => ?_⟩
    have sb : N60 b := N60.of b0 (show _ ≤ 60 by omega) b1
    have S5 := S4.trans s5
    (repeat (with_reducible first | refine r_v0 ?_ | refine r_v1 ?_ | refine r_v3 ?_ | refine r_gn5 ?_ | refine r_seq ?_ | refine r_asg ?_ | refine r_C ?_ | refine r_op ?_ | refine r_I0 ?_ | refine r_cons ?_ | refine r_nil ?_ | refine r_call ?_ | refine r_CB ?_))
    refine ⟨p, ns, _, rfl, Same.seq S5 hS, hl, by omega, by omega, fun x3 H6 s6 _ _ => ?_⟩
    obtain ⟨z3, hz3, z30, z31⟩ := sizes_at (x := x3) hm0 hm1
    (repeat (first | (with_reducible refine r_C ?_) | ((with_reducible refine r_I ?zzc ?_); (case zzc => first | with_reducible assumption | ((with_reducible apply mul_okA); (repeat' (first | with_reducible assumption | with_reducible apply Sz.mul | with_reducible apply Sz.addM | with_reducible apply Sz.subM | with_reducible apply Sz.neg | exact Sz.lit | decide)); done) | (show (0 : Int) < _; first | with_reducible assumption | decide | omega) | exact mul_okL | exact mul_okR | exact mul_okM | (exact div_ok (by with_reducible assumption) (by with_reducible assumption)) | (exact ⟨by with_reducible assumption, by with_reducible assumption⟩) | (exact ⟨by decide, by decide, by decide⟩) | (exact ⟨by decide, by decide⟩)))))
    refine r_ixT (.inl (.inl (s6 _ _ (s5 _ _ (s4 _ _ (s3 _ _ (s2 _ _ e1))))))) hz3 ?_
    have S6 := S5.trans s6
    (repeat (with_reducible refine r_nil ?_))
    refine ⟨p, ns, _, _, rfl, Same.seq S6 hS, hl, by omega, by omega, z30, z31, fun m e3 H7 s7 m0 he3 m1 => ?_⟩
    obtain ⟨mp, sm⟩ := max1D m0 (N60.of m0 (show _ ≤ 60 by omega) m1)
    have S7 := S6.trans s7
    (repeat (with_reducible first | refine r_v0 ?_ | refine r_v1 ?_ | refine r_gn6 ?_ | refine r_seq ?_ | refine r_C ?_ | refine r_op ?_ | refine r_I0 ?_ | refine r_if ?_ | refine r_test ?_ | refine r_cons ?_ | refine r_nil ?_ | refine r_call ?_ | refine r_max2 ?_))
    generalize (if m > 1 then m else 1) = m at mp sm
    refine ⟨p, ns, _, rfl, Same.seq S7 hS, hl, by omega, by omega, fun x4 H8 s8 _ _ => ?_⟩
    have S8 := S7.trans s8
    (repeat' (first | (with_reducible refine r_ite (fun _ => ?_) (fun _ => ?_)) | (with_reducible first | refine r_v0 ?_ | refine r_v1 ?_ | refine r_v4 ?_ | refine r_gn4 ?_ | refine r_seq ?_ | refine r_next ?_ | refine r_asg ?_ | refine r_C ?_ | refine r_op ?_ | refine r_un ?_ | refine r_I0 ?_ | refine r_U ?_ | refine r_if ?_ | refine r_test ?_ | refine r_bl ?_ | refine r_cons ?_ | refine r_nil ?_ | refine r_call ?_ | refine r_eqI ?_) | ((with_reducible refine r_I ?zzc ?_); (case zzc => first | with_reducible assumption | ((with_reducible apply mul_okA); (repeat' (first | with_reducible assumption | with_reducible apply Sz.mul | with_reducible apply Sz.addM | with_reducible apply Sz.subM | with_reducible apply Sz.neg | exact Sz.lit | decide)); done) | (show (0 : Int) < _; first | with_reducible assumption | decide | omega) | exact mul_okL | exact mul_okR | exact mul_okM | (exact div_ok (by with_reducible assumption) (by with_reducible assumption)) | (exact ⟨by with_reducible assumption, by with_reducible assumption⟩) | (exact ⟨by decide, by decide, by decide⟩) | (exact ⟨by decide, by decide⟩)))))
    all_goals
      refine ⟨p, ns, _, rfl, Same.seq S8 hS, hl, by omega, by omega, fun x5 H9 s9 _ _ => ?_⟩
      have S9 := S8.trans s9
      (repeat' (first | (with_reducible refine r_ite (fun _ => ?_) (fun _ => ?_)) | (with_reducible first | refine r_v4 ?_ | refine r_v5 ?_ | refine r_v6 ?_ | refine r_gn5 ?_ | refine r_next ?_ | refine r_asg ?_ | refine r_C ?_ | refine r_un ?_ | refine r_U ?_ | refine r_ret ?_ | refine r_bl ?_ | refine r_cons ?_ | refine r_nil ?_ | refine r_tup ?_ | refine r_eqI ?_) | ((with_reducible refine r_I ?zzc ?_); (case zzc => first | with_reducible assumption | ((with_reducible apply mul_okA); (repeat' (first | with_reducible assumption | with_reducible apply Sz.mul | with_reducible apply Sz.addM | with_reducible apply Sz.subM | with_reducible apply Sz.neg | exact Sz.lit | decide)); done) | (show (0 : Int) < _; first | with_reducible assumption | decide | omega) | exact mul_okL | exact mul_okR | exact mul_okM | (exact div_ok (by with_reducible assumption) (by with_reducible assumption)) | (exact ⟨by with_reducible assumption, by with_reducible assumption⟩) | (exact ⟨by decide, by decide, by decide⟩) | (exact ⟨by decide, by decide⟩)))))
      all_goals
        refine r_litT fun pt Ht nt st et => ?_
        exact q pt _ _ _ Ht (S9.trans st) et mp (by first | exact sa | exact sa.neg) (by first | exact sb | exact sb.neg) sm

def abcS : Str := "abcdefghijklmnopqrstuvwxyz"
theorem letter_at {z : Int} (h0 : 0 ≤ z) (h1 : z < 26) : atI abcS.cps.toList z = some (97 + z.toNat) := by
  have h : ∀ i : Fin 26, atI abcS.cps.toList (i.val : Int) = some (97 + i.val) := by decide +kernel
  have := h ⟨z.toNat, by omega⟩
  rw [show ((⟨z.toNat, by omega⟩ : Fin 26).val : Int) = z by show (z.toNat : Int) = z; omega] at this
  exact this
def names3 : List Str := ["a", "ab", "ba", "b", "aba", "bab", "abc", "cba"]
def names4 : List Str := ["line", "part", "rest", "sum", "order", "points", "paper", "within"]
def sgC (ns : List Int) (i : Int) : Nat := 97 + ((i + drawF ns 9) % 26).toNat
def padC (ns : List Int) : Nat := 97 + (drawF ns 0 % 26).toNat
/-- the name with a number, as its signs -/
def nameL (ns : List Int) (i : Int) : List Nat :=
  if drawF ns 8 % 8 = 1 ∨ drawF ns 8 % 8 = 2 then [sgC ns i]
  else if drawF ns 8 % 8 = 3 then tl ((names3[i.toNat]?).getD "a")
  else if drawF ns 8 % 8 = 4 then tl ((names4[i.toNat]?).getD "a")
  else List.replicate (drawF ns 1 % 8).toNat (padC ns) ++ [sgC ns i] ++ List.replicate (drawF ns 2 % (8 - drawF ns 1 % 8)).toNat (padC ns)
theorem name_inj {ns : List Int} {i j : Int} (i0 : 0 ≤ i) (i8 : i < 8) (j0 : 0 ≤ j) (j8 : j < 8) (h : nameL ns i = nameL ns j) : i = j := by
  have sg : sgC ns i = sgC ns j → i = j := fun e => by
    unfold sgC at e
    omega
  unfold nameL at h
  split at h
  · exact sg (List.cons.inj h).1
  split at h
  · have k : ∀ a b : Fin 8, tl ((names3[a.val]?).getD "a") = tl ((names3[b.val]?).getD "a") → a = b := by decide +kernel
    have := congrArg Fin.val (k ⟨i.toNat, by omega⟩ ⟨j.toNat, by omega⟩ h)
    have e : i.toNat = j.toNat := this
    omega
  split at h
  · have k : ∀ a b : Fin 8, tl ((names4[a.val]?).getD "a") = tl ((names4[b.val]?).getD "a") → a = b := by decide +kernel
    have := congrArg Fin.val (k ⟨i.toNat, by omega⟩ ⟨j.toNat, by omega⟩ h)
    have e : i.toNat = j.toNat := this
    omega
  · exact sg (List.cons.inj (List.append_cancel_left (List.append_cancel_right h))).1
/-! ### _law_name -/

def sp__law_name (K : PySem.W.Frag) : Sp := fun vs H Q _ => ∃ (a : Addr) (ns : List Int) (i : Int), vs = [.ref a, .int i] ∧ SqL K H a (ns.map V.int) ∧ ns.length ≤ 63 ∧ 0 ≤ i ∧ i < 8 ∧ ∀ (w : Str) H', Same H H' → tl w = nameL ns i → LowL (tl w) → Q (.str w) H'
theorem ok__law_name {P : Program} {w : World} {K : PySem.W.Frag} {mg : Str → Option Value} {base : Heap} (T : Top w K mg base) : FnOk P w K mg base CX0 2 T.f__law_name T.fd__law_name ["script", "i"] (sp__law_name K) := by
  refine T.F__law_name.ok sc__law_name (fun vs H Q E h => ?_) (fun cdv A outer s H vs Q E hr h => ?_)
  · rcases h with ⟨a, ns, i, rfl, _⟩ <;> rfl
  · obtain ⟨a, ns, i, rfl, hS, hl, i0, i8, q⟩ := h
    refine ⟨_, (pss_cons (ps_set (i := 2) sc__law_name.nd rfl (Or.inl rfl) pe_str)
  (pss_cons (ps_set (i := 3) sc__law_name.nd rfl (Or.inl rfl) (pe_ix ix_str (pv 2) (pe_op op_mod (pe_call (ok__law_draw T) (hr.mono (by decide)) (by rfl) T.g__law_draw T.F__law_draw.kp T.b__law_draw .nil pass0 (pa_cons (pv 0) (pa_cons pe_int pa_nil))) pe_int) (fun _ _ => rfl)))
  (pss_cons (ps_set (i := 4) sc__law_name.nd rfl (Or.inl rfl) (pe_op op_mod (pe_call (ok__law_draw T) (hr.mono (by decide)) (by rfl) T.g__law_draw T.F__law_draw.kp T.b__law_draw .nil pass0 (pa_cons (pv 0) (pa_cons pe_int pa_nil))) pe_int))
  (pss_cons (ps_set (i := 5) sc__law_name.nd rfl (Or.inl rfl) (pe_op op_mod (pe_call (ok__law_draw T) (hr.mono (by decide)) (by rfl) T.g__law_draw T.F__law_draw.kp T.b__law_draw .nil pass0 (pa_cons (pv 0) (pa_cons pe_int pa_nil))) (pe_op op_sub pe_int (pv 4))))
  (pss_cons (ps_set (i := 6) sc__law_name.nd rfl (Or.inl rfl) (pe_ix ix_str (pv 2) (pe_op op_mod (pe_op op_add (pv 1) (pe_call (ok__law_draw T) (hr.mono (by decide)) (by rfl) T.g__law_draw T.F__law_draw.kp T.b__law_draw .nil pass0 (pa_cons (pv 0) (pa_cons pe_int pa_nil)))) pe_int) (fun _ _ => rfl)))
  (pss_cons (ps_set (i := 7) sc__law_name.nd rfl (Or.inl rfl) (pe_op op_mod (pe_call (ok__law_draw T) (hr.mono (by decide)) (by rfl) T.g__law_draw T.F__law_draw.kp T.b__law_draw .nil pass0 (pa_cons (pv 0) (pa_cons pe_int pa_nil))) pe_int))
  (pss_cons (ps_if (PW.pt (pw_or (pt_cmpR op_eq (pv 7) pe_int (nomark _)) (pw_or1 (pt_cmpR op_eq (pv 7) pe_int (nomark _))))) (pss_one (ps_ret (pv 6))) pss_nil)
  (pss_cons (ps_if (PW.pt (pw_and (pt_cmpR op_eq (pv 7) pe_int (nomark _)) (pw_and1 (pt_cmpR op_lt (pv 1) pe_int (nomark _))))) (pss_one (ps_ret (pe_ix ix_tup (pe_tup (pa_cons pe_str (pa_cons pe_str (pa_cons pe_str (pa_cons pe_str (pa_cons pe_str (pa_cons pe_str (pa_cons pe_str (pa_cons pe_str pa_nil))))))))) (pv 1) (fun _ _ => rfl)))) pss_nil)
  (pss_cons (ps_if (PW.pt (pw_and (pt_cmpR op_eq (pv 7) pe_int (nomark _)) (pw_and1 (pt_cmpR op_lt (pv 1) pe_int (nomark _))))) (pss_one (ps_ret (pe_ix ix_tup (pe_tup (pa_cons pe_str (pa_cons pe_str (pa_cons pe_str (pa_cons pe_str (pa_cons pe_str (pa_cons pe_str (pa_cons pe_str (pa_cons pe_str pa_nil))))))))) (pv 1) (fun _ _ => rfl)))) pss_nil)
  (pss_one (ps_ret (pe_op op_add_str (pe_op op_add_str (pe_op op_mulS (pv 3) (pv 4)) (pv 6)) (pe_op op_mulS (pv 3) (pv 5)))))))))))))), ?_⟩
    try rw [st__law_name]

    have abl : abcS.length ≤ sizeLine := Nat.le_trans (show abcS.length ≤ 26 by decide +kernel) (by decide)
    (repeat (with_reducible first | refine r_v0 ?_ | refine r_v2 ?_ | refine r_gn2 ?_ | refine r_seq ?_ | refine r_asg ?_ | refine r_C ?_ | refine r_op ?_ | refine r_cons ?_ | refine r_nil ?_ | refine r_call ?_))
    refine ⟨a, ns, _, rfl, hS, hl, by omega, by omega, fun d0 H1 s1 d00 d01 => ?_⟩
    have p0 := Int.emod_nonneg d0 (b := 26) (by decide)
    have p1 := Int.emod_lt_of_pos d0 (b := 26) (by decide)
    (repeat (first | (with_reducible refine r_C ?_) | ((with_reducible refine r_I ?zzc ?_); (case zzc => first | with_reducible assumption | ((with_reducible apply mul_okA); (repeat' (first | with_reducible assumption | with_reducible apply Sz.mul | with_reducible apply Sz.addM | with_reducible apply Sz.subM | with_reducible apply Sz.neg | exact Sz.lit | decide)); done) | (show (0 : Int) < _; first | with_reducible assumption | decide | omega) | exact mul_okL | exact mul_okR | exact mul_okM | (exact div_ok (by with_reducible assumption) (by with_reducible assumption)) | (exact ⟨by with_reducible assumption, by with_reducible assumption⟩) | (exact ⟨by decide, by decide, by decide⟩) | (exact ⟨by decide, by decide⟩)))))
    refine ⟨abcS, _, _, rfl, rfl, abl, letter_at p0 p1, ?_⟩
    (repeat (with_reducible first | refine r_v0 ?_ | refine r_gn3 ?_ | refine r_seq ?_ | refine r_asg ?_ | refine r_C ?_ | refine r_op ?_ | refine r_cons ?_ | refine r_nil ?_ | refine r_call ?_))
    refine ⟨a, ns, _, rfl, Same.seq s1 hS, hl, by omega, by omega, fun d1 H2 s2 d10 d11 => ?_⟩
    have S2 := s1.trans s2
    have pos8 : 0 < 8 - d1 % 8 := by omega
    (repeat (first | (with_reducible first | refine r_v0 ?_ | refine r_gn4 ?_ | refine r_seq ?_ | refine r_asg ?_ | refine r_C ?_ | refine r_op ?_ | refine r_cons ?_ | refine r_nil ?_ | refine r_call ?_) | ((with_reducible refine r_I ?zzc ?_); (case zzc => first | with_reducible assumption | ((with_reducible apply mul_okA); (repeat' (first | with_reducible assumption | with_reducible apply Sz.mul | with_reducible apply Sz.addM | with_reducible apply Sz.subM | with_reducible apply Sz.neg | exact Sz.lit | decide)); done) | (show (0 : Int) < _; first | with_reducible assumption | decide | omega) | exact mul_okL | exact mul_okR | exact mul_okM | (exact div_ok (by with_reducible assumption) (by with_reducible assumption)) | (exact ⟨by with_reducible assumption, by with_reducible assumption⟩) | (exact ⟨by decide, by decide, by decide⟩) | (exact ⟨by decide, by decide⟩)))))
    refine ⟨a, ns, _, rfl, Same.seq S2 hS, hl, by omega, by omega, fun d2 H3 s3 d20 d21 => ?_⟩
    have S3 := S2.trans s3
    have t0 := Int.emod_nonneg d2 (b := 8 - d1 % 8) (by omega)
    have t1 := Int.emod_lt_of_pos d2 pos8
    (repeat (first | (with_reducible first | refine r_v0 ?_ | refine r_v1 ?_ | refine r_v2 ?_ | refine r_v4 ?_ | refine r_gn5 ?_ | refine r_seq ?_ | refine r_asg ?_ | refine r_C ?_ | refine r_op ?_ | refine r_I0 ?_ | refine r_cons ?_ | refine r_nil ?_ | refine r_call ?_) | ((with_reducible refine r_I ?zzc ?_); (case zzc => first | with_reducible assumption | ((with_reducible apply mul_okA); (repeat' (first | with_reducible assumption | with_reducible apply Sz.mul | with_reducible apply Sz.addM | with_reducible apply Sz.subM | with_reducible apply Sz.neg | exact Sz.lit | decide)); done) | (show (0 : Int) < _; first | with_reducible assumption | decide | omega) | exact mul_okL | exact mul_okR | exact mul_okM | (exact div_ok (by with_reducible assumption) (by with_reducible assumption)) | (exact ⟨by with_reducible assumption, by with_reducible assumption⟩) | (exact ⟨by decide, by decide, by decide⟩) | (exact ⟨by decide, by decide⟩)))))
    refine ⟨a, ns, _, rfl, Same.seq S3 hS, hl, by omega, by omega, fun d9 H4 s4 d90 d91 => ?_⟩
    have S4 := S3.trans s4
    have g0 := Int.emod_nonneg (i + d9) (b := 26) (by decide)
    have g1 := Int.emod_lt_of_pos (i + d9) (b := 26) (by decide)
    (repeat (first | (with_reducible first | refine r_C ?_ | refine r_I0 ?_) | ((with_reducible refine r_I ?zzc ?_); (case zzc => first | with_reducible assumption | ((with_reducible apply mul_okA); (repeat' (first | with_reducible assumption | with_reducible apply Sz.mul | with_reducible apply Sz.addM | with_reducible apply Sz.subM | with_reducible apply Sz.neg | exact Sz.lit | decide)); done) | (show (0 : Int) < _; first | with_reducible assumption | decide | omega) | exact mul_okL | exact mul_okR | exact mul_okM | (exact div_ok (by with_reducible assumption) (by with_reducible assumption)) | (exact ⟨by with_reducible assumption, by with_reducible assumption⟩) | (exact ⟨by decide, by decide, by decide⟩) | (exact ⟨by decide, by decide⟩)))))
    refine ⟨abcS, _, _, rfl, rfl, abl, letter_at g0 g1, ?_⟩
    (repeat (with_reducible first | refine r_v0 ?_ | refine r_gn6 ?_ | refine r_seq ?_ | refine r_asg ?_ | refine r_C ?_ | refine r_op ?_ | refine r_cons ?_ | refine r_nil ?_ | refine r_call ?_))
    refine ⟨a, ns, _, rfl, Same.seq S4 hS, hl, by omega, by omega, fun d8 H5 s5 d80 d81 => ?_⟩
    have S5 := S4.trans s5
    have e0 := d01.2
    have e1 := d11.2
    have e2 := d21.2
    have e9 := d91.2
    have e8 := d81.2
    have hsg : 97 + ((i + d9) % 26).toNat = sgC ns i := by
      unfold sgC
      rw [← e9]
    have hpad : 97 + (d0 % 26).toNat = padC ns := by
      unfold padC
      rw [← e0]
    rw [hsg, hpad]
    have sgl : 97 ≤ sgC ns i ∧ sgC ns i ≤ 122 := by
      rw [← hsg]
      omega
    have padl : 97 ≤ padC ns ∧ padC ns ≤ 122 := by
      rw [← hpad]
      omega
    have one : ∀ H', Same H H' → (drawF ns 8 % 8 = 1 ∨ drawF ns 8 % 8 = 2) → Q (.str ⟨#[sgC ns i]⟩) H' := fun H' s h => by
      refine q _ H' s ?_ ⟨by show 1 ≤ 1; decide, by show 1 ≤ 8; decide, fun c hc => ?_⟩
      · unfold nameL
        rw [if_pos h]
      · rw [show c = sgC ns i from List.mem_singleton.mp hc]
        exact sgl
    (repeat (first | (with_reducible first | refine r_v7 ?_ | refine r_gn7 ?_ | refine r_seq ?_ | refine r_C ?_ | refine r_op ?_ | refine r_if ?_ | refine r_test ?_ | refine r_bl ?_ | refine r_or ?_ | refine r_eqI ?_) | ((with_reducible refine r_I ?zzc ?_); (case zzc => first | with_reducible assumption | ((with_reducible apply mul_okA); (repeat' (first | with_reducible assumption | with_reducible apply Sz.mul | with_reducible apply Sz.addM | with_reducible apply Sz.subM | with_reducible apply Sz.neg | exact Sz.lit | decide)); done) | (show (0 : Int) < _; first | with_reducible assumption | decide | omega) | exact mul_okL | exact mul_okR | exact mul_okM | (exact div_ok (by with_reducible assumption) (by with_reducible assumption)) | (exact ⟨by with_reducible assumption, by with_reducible assumption⟩) | (exact ⟨by decide, by decide, by decide⟩) | (exact ⟨by decide, by decide⟩)))))
    refine r_ite (fun h => ?_) (fun h1 => ?_)
    · (repeat (with_reducible first | refine r_v6 ?_ | refine r_ret ?_ | refine iteT ?_))
      exact one _ S5 (.inl (by rw [← e8]; exact h))
    (repeat (with_reducible first | refine r_v7 ?_ | refine r_C ?_ | refine r_op ?_ | refine r_test ?_ | refine r_bl ?_ | refine r_eqI ?_))
    refine r_ite (fun h => ?_) (fun h2 => ?_)
    · (repeat (with_reducible first | refine r_v6 ?_ | refine r_ret ?_))
      exact one _ S5 (.inr (by rw [← e8]; exact h))
    have n12 : ¬ (drawF ns 8 % 8 = 1 ∨ drawF ns 8 % 8 = 2) := by
      rw [← e8]
      omega
    (repeat (with_reducible first | refine r_v7 ?_ | refine r_seq ?_ | refine r_next ?_ | refine r_C ?_ | refine r_op ?_ | refine r_if ?_ | refine r_test ?_ | refine r_bl ?_ | refine r_and ?_ | refine r_eqI ?_))
    refine r_ite (fun h3 => ?_) (fun h3 => ?_)
    · (repeat (with_reducible first | refine r_v1 ?_ | refine r_C ?_ | refine r_op ?_ | refine r_I0 ?_ | refine r_test ?_ | refine r_bl ?_))
      refine r_ite (fun _ => ?_) (fun h => absurd i8 h)
      (repeat (with_reducible first | refine r_C ?_ | refine r_op ?_ | refine r_ret ?_ | refine r_cons ?_ | refine r_nil ?_ | refine r_tup ?_))
      refine r_litT fun pt H6 n6 s6 e6 => ?_
      have k : ∀ a : Fin 8, atI (names3.map V.str) (a.val : Int) = some (.str ((names3[a.val]?).getD "a")) := fun a => by
        match a with
        | ⟨0, _⟩ => rfl
        | ⟨1, _⟩ => rfl
        | ⟨2, _⟩ => rfl
        | ⟨3, _⟩ => rfl
        | ⟨4, _⟩ => rfl
        | ⟨5, _⟩ => rfl
        | ⟨6, _⟩ => rfl
        | ⟨7, _⟩ => rfl
      have kl : ∀ a : Fin 8, LowL (tl ((names3[a.val]?).getD "a")) := by
        unfold LowL
        decide +kernel
      have k1 := k ⟨i.toNat, by omega⟩
      have k2 := kl ⟨i.toNat, by omega⟩
      rw [show (((⟨i.toNat, by omega⟩ : Fin 8).val : Nat) : Int) = i by show (i.toNat : Int) = i; omega] at k1
      (repeat (with_reducible refine r_v1 ?_))
      refine r_ixT (xs := names3.map V.str) (.inl (.inl e6)) k1 ?_
      refine q _ H6 (S5.trans s6) ?_ k2
      unfold nameL
      rw [if_neg n12, if_pos (by rw [← e8]; exact h3)]
    (repeat (with_reducible first | refine r_v7 ?_ | refine r_seq ?_ | refine r_next ?_ | refine r_C ?_ | refine r_op ?_ | refine r_if ?_ | refine r_test ?_ | refine r_bl ?_ | refine r_and ?_ | refine r_eqI ?_ | refine iteF ?_))
    refine r_ite (fun h4 => ?_) (fun h4 => ?_)
    · (repeat (with_reducible first | refine r_v1 ?_ | refine r_C ?_ | refine r_op ?_ | refine r_I0 ?_ | refine r_test ?_ | refine r_bl ?_))
      refine r_ite (fun _ => ?_) (fun h => absurd i8 h)
      (repeat (with_reducible first | refine r_C ?_ | refine r_op ?_ | refine r_ret ?_ | refine r_cons ?_ | refine r_nil ?_ | refine r_tup ?_))
      refine r_litT fun pt H6 n6 s6 e6 => ?_
      have k : ∀ a : Fin 8, atI (names4.map V.str) (a.val : Int) = some (.str ((names4[a.val]?).getD "a")) := fun a => by
        match a with
        | ⟨0, _⟩ => rfl
        | ⟨1, _⟩ => rfl
        | ⟨2, _⟩ => rfl
        | ⟨3, _⟩ => rfl
        | ⟨4, _⟩ => rfl
        | ⟨5, _⟩ => rfl
        | ⟨6, _⟩ => rfl
        | ⟨7, _⟩ => rfl
      have kl : ∀ a : Fin 8, LowL (tl ((names4[a.val]?).getD "a")) := by
        unfold LowL
        decide +kernel
      have k1 := k ⟨i.toNat, by omega⟩
      have k2 := kl ⟨i.toNat, by omega⟩
      rw [show (((⟨i.toNat, by omega⟩ : Fin 8).val : Nat) : Int) = i by show (i.toNat : Int) = i; omega] at k1
      (repeat (with_reducible refine r_v1 ?_))
      refine r_ixT (xs := names4.map V.str) (.inl (.inl e6)) k1 ?_
      refine q _ H6 (S5.trans s6) ?_ k2
      unfold nameL
      rw [if_neg n12, if_neg (by rw [← e8]; exact h3), if_pos (by rw [← e8]; exact h4)]
    (repeat (with_reducible first | refine r_v3 ?_ | refine r_v4 ?_ | refine r_next ?_ | refine r_op ?_ | refine r_ret ?_ | refine iteF ?_))
    have pl0 := Int.emod_nonneg d1 (b := 8) (by decide)
    have pl1 := Int.emod_lt_of_pos d1 (b := 8) (by decide)
    have lm : ∀ g : Int, (Txt.mul ⟨#[padC ns]⟩ g).length = g.toNat := fun g => by rw [len_tl, tl_mulC, List.length_replicate]
    have l1 : (⟨#[sgC ns i]⟩ : Str).length = 1 := rfl
    have big : ∀ {n : Nat}, n ≤ 100 → n ≤ sizeLine := fun h => Nat.le_trans h (by decide)
    refine ⟨_, _, rfl, rfl, mulC_ok pl0 (by omega), ?_⟩
    (repeat (with_reducible first | refine r_v6 ?_ | refine r_str2 ?_))
    refine ⟨big (by rw [lm, l1]; omega), ?_⟩
    (repeat (with_reducible first | refine r_v3 ?_ | refine r_v5 ?_ | refine r_op ?_))
    refine ⟨_, _, rfl, rfl, mulC_ok t0 (by omega), ?_⟩
    (repeat (with_reducible refine r_str2 ?_))
    refine ⟨big (by rw [len_append, lm, lm, l1]; omega), ?_⟩
    have et : tl (Txt.mul ⟨#[padC ns]⟩ (d1 % 8) ++ ⟨#[sgC ns i]⟩ ++ Txt.mul ⟨#[padC ns]⟩ (d2 % (8 - d1 % 8))) = List.replicate (d1 % 8).toNat (padC ns) ++ [sgC ns i] ++ List.replicate (d2 % (8 - d1 % 8)).toNat (padC ns) := by
      rw [tl_append, tl_append, tl_mulC, tl_mulC]
    refine q _ H5 S5 ?_ ?_
    · rw [et]
      unfold nameL
      rw [if_neg n12, if_neg (by rw [← e8]; exact h3), if_neg (by rw [← e8]; exact h4), ← e1, ← e2]
    · rw [et]
      refine ⟨?_, ?_, fun c hc => ?_⟩
      · rw [List.length_append, List.length_append]
        show 1 ≤ _ + 1 + _
        omega
      · rw [List.length_append, List.length_append, List.length_replicate, List.length_replicate]
        show _ + 1 + _ ≤ 8
        omega
      · rcases List.mem_append.mp hc with hc | hc
        · rcases List.mem_append.mp hc with hc | hc
          · rw [List.eq_of_mem_replicate hc]
            exact padl
          · rw [List.mem_singleton.mp hc]
            exact sgl
        · rw [List.eq_of_mem_replicate hc]
          exact padl

/-! ### what is asked, and answers held against texts -/
theorem split_of {t : Str} {ws : List Str} (hne : ws ≠ []) (hf : ∀ p ∈ ws, 32 ∉ tl p) (e : tl t = tl (Txt.join " " ws)) : Txt.split t " " = ws := by
  rw [ext_tl e]
  exact split_join (y := " ") (s := 32) (S := []) (by decide +kernel) (by decide +kernel) hne hf
theorem join_one (x : Str) : Txt.join " " [x] = x := by
  rw [join_eq]
  rfl
theorem join_two (x y : Str) : tl (Txt.join " " [x, y]) = tl x ++ (32 :: tl y) := by
  have b : tl (" " : Str) = [32] := by decide +kernel
  rw [join_eq]
  show tl (x ++ " " ++ y) = _
  rw [tl_append, tl_append, b, List.append_assoc]
  rfl
theorem rowT_one (z : Int) : Txt.join " " ([z].map num) = num z := join_one _
theorem split3 {word name : Str} {n : Int} (hw : 32 ∉ tl word) (hn : 32 ∉ tl name) : Txt.split (word ++ (" " ++ name ++ " " ++ num n)) " " = [word, name, num n] := by
  have b : tl (" " : Str) = [32] := by decide +kernel
  refine split_of (by simp) (fun p hp => ?_) ?_
  · simp only [List.mem_cons, List.not_mem_nil, or_false] at hp
    rcases hp with rfl | rfl | rfl
    · exact hw
    · exact hn
    · exact num_free _
  · rw [join_eq]
    show tl (word ++ (" " ++ name ++ " " ++ num n)) = tl (word ++ " " ++ (name ++ " " ++ num n))
    simp only [tl_append, List.append_assoc]
theorem split4 {word name : Str} {n k : Int} (hw : 32 ∉ tl word) (hn : 32 ∉ tl name) : Txt.split (word ++ (" " ++ name ++ " " ++ num n) ++ " " ++ num k) " " = [word, name, num n, num k] := by
  refine split_of (by simp) (fun p hp => ?_) ?_
  · simp only [List.mem_cons, List.not_mem_nil, or_false] at hp
    rcases hp with rfl | rfl | rfl | rfl
    · exact hw
    · exact hn
    · exact num_free _
    · exact num_free _
  · rw [join_eq]
    show tl (word ++ (" " ++ name ++ " " ++ num n) ++ " " ++ num k) = tl (word ++ " " ++ (name ++ " " ++ (num n ++ " " ++ num k)))
    simp only [tl_append, List.append_assoc]
/-- a text of signs that there are -/
def Asc (t : Str) : Prop := ∀ c ∈ tl t, c < 128
theorem Asc.ok {t : Str} (h : Asc t) : PyData.strOk t = true := by
  unfold PyData.strOk
  rw [Array.all_eq_true']
  intro c hc
  exact decide_eq_true (Nat.lt_trans (h c (by exact Array.mem_toList_iff.mpr hc)) (by decide))
theorem asc_num (z : Int) : Asc (num z) := fun c hc => by
  rw [tl_numI] at hc
  have k : ∀ n : Nat, c ∈ numL n → c < 128 := fun n h => by
    have := numL_digits n c h
    omega
  split at hc
  · rcases List.mem_cons.mp hc with h | h
    · omega
    · exact k _ h
  · exact k _ hc
theorem asc_app {x y : Str} (hx : Asc x) (hy : Asc y) : Asc (x ++ y) := fun c hc => by
  rw [tl_append] at hc
  rcases List.mem_append.mp hc with h | h
  · exact hx c h
  · exact hy c h
theorem asc_join {ys : List Str} (h : ∀ y ∈ ys, Asc y) : Asc (Txt.join " " ys) := by
  have b : tl (" " : Str) = [32] := by decide +kernel
  unfold Asc
  rw [join_eq, tl_join, b]
  induction ys with
  | nil =>
    intro c hc
    exact nomatch hc
  | cons y ys ih =>
    have h1 := h y List.mem_cons_self
    have h2 := ih fun z hz => h z (List.mem_cons_of_mem _ hz)
    cases ys with
    | nil =>
      intro c hc
      exact h1 c (by simpa [joinL] using hc)
    | cons z r =>
      intro c hc
      rw [show List.map tl (y :: z :: r) = tl y :: tl z :: r.map tl from rfl] at hc
      have hc2 : c ∈ tl y ++ ([32] ++ joinL [32] (tl z :: r.map tl)) := hc
      rcases List.mem_append.mp hc2 with q | q
      · exact h1 c q
      · rcases List.mem_append.mp q with q | q
        · rw [List.mem_singleton.mp q]
          decide
        · exact h2 c q
theorem asc_row (r : List Int) : Asc (rowT r) := asc_join fun y hy => by
  obtain ⟨z, _, rfl⟩ := List.mem_map.mp hy
  exact asc_num z
theorem canLay_strsA : ∀ (ys : List Str), (∀ y ∈ ys, Asc y) → PyData.canLayAll0 (ys.map PyData.str) = true
  | [], _ => rfl
  | y :: ys, h => by
    have h1 := (h y (List.mem_cons_self ..)).ok
    have h2 := canLay_strsA ys fun z hz => h z (List.mem_cons_of_mem _ hz)
    simp [PyData.canLayAll0, PyData.canLay0, h1, h2]
theorem depth_strsA : ∀ (ys : List Str), PyData.depthAll (ys.map PyData.str) = 0
  | [] => rfl
  | y :: ys => by simp [PyData.depthAll, PyData.depth, depth_strsA ys]
theorem shaped_strsA (ys : List Str) (h : ∀ y ∈ ys, Asc y) : SeqAt.shaped (.list (ys.map PyData.str)) = true := by
  simp [SeqAt.shaped, PyData.canLay0, PyData.depth, canLay_strsA ys h, depth_strsA]
theorem dp_all_strsA {K : PySem.W.Frag} {H : Hp} : ∀ ys : List Str, DpAll K H (ys.map V.str) (ys.map PyData.str)
  | [] => .nil
  | y :: ys => .cons (.str y) (dp_all_strsA ys)
theorem dp_strsA {K : PySem.W.Frag} {H : Hp} {p : Addr} {ys : List Str} (h : H p = some (.lst (ys.map V.str))) : Dp K H (.ref p) (.list (ys.map PyData.str)) := .lst (SqL.of h) (dp_all_strsA ys)
/-- lists of the same texts -/
theorem r_neSs {K : PySem.W.Frag} {H : Hp} {Q : VK} {p t : Addr} {ys : List Str} (h1 : H p = some (.lst (ys.map V.str))) (h2 : H t = some (.lst (ys.map V.str))) (ok : ∀ y ∈ ys, Asc y) (h : Q (.bl false) H) : rNeD K (.ref p) (.ref t) H Q :=
  r_neS (dp_strsA h1) (dp_strsA h2) (shaped_strsA ys ok) h
theorem r_neL1 {K : PySem.W.Frag} {H : Hp} {Q : VK} {p t : Addr} {s : Str} (h1 : H p = some (.lst [.str s])) (h2 : H t = some (.lst [.str s])) (ok : Asc s) (h : Q (.bl false) H) : rNeD K (.ref p) (.ref t) H Q :=
  r_neSs (ys := [s]) h1 h2 (fun y hy => by rw [List.mem_singleton.mp hy]; exact ok) h
theorem r_neL0 {K : PySem.W.Frag} {H : Hp} {Q : VK} {p t : Addr} (h1 : H p = some (.lst [])) (h2 : H t = some (.lst [])) (h : Q (.bl false) H) : rNeD K (.ref p) (.ref t) H Q :=
  r_neSs (ys := []) h1 h2 (fun y hy => nomatch hy) h
theorem split_tl {t : Str} {ws : List Str} (hne : ws ≠ []) (hf : ∀ p ∈ ws, 32 ∉ tl p) (e : tl t = joinL [32] (ws.map tl)) : Txt.split t " " = ws := by
  have b : tl (" " : Str) = [32] := by decide +kernel
  refine split_of hne hf ?_
  rw [join_eq, tl_join, b]
  exact e
/-- "word " ++ name ++ " " ++ number -/
theorem split3L {lead word name : Str} {n : Int} (hlead : tl lead = tl word ++ [32]) (hw : 32 ∉ tl word) (hn : 32 ∉ tl name) : Txt.split (lead ++ name ++ " " ++ num n) " " = [word, name, num n] := by
  have b : tl (" " : Str) = [32] := by decide +kernel
  refine split_tl (by simp) (fun p hp => ?_) ?_
  · simp only [List.mem_cons, List.not_mem_nil, or_false] at hp
    rcases hp with rfl | rfl | rfl
    · exact hw
    · exact hn
    · exact num_free _
  · simp only [tl_append, hlead, b, List.map_cons, List.map_nil, joinL, List.append_assoc]
theorem split4L {lead word name : Str} {n k : Int} (hlead : tl lead = tl word ++ [32]) (hw : 32 ∉ tl word) (hn : 32 ∉ tl name) : Txt.split (lead ++ name ++ " " ++ num n ++ " " ++ num k) " " = [word, name, num n, num k] := by
  have b : tl (" " : Str) = [32] := by decide +kernel
  refine split_tl (by simp) (fun p hp => ?_) ?_
  · simp only [List.mem_cons, List.not_mem_nil, or_false] at hp
    rcases hp with rfl | rfl | rfl | rfl
    · exact hw
    · exact hn
    · exact num_free _
    · exact num_free _
  · simp only [tl_append, hlead, b, List.map_cons, List.map_nil, joinL, List.append_assoc]
/-- "word " ++ name ++ " figures" -/
theorem split3E {lead word name tail : Str} {n : Int} (hlead : tl lead = tl word ++ [32]) (htail : tl tail = 32 :: tl (num n)) (hw : 32 ∉ tl word) (hn : 32 ∉ tl name) : Txt.split (lead ++ name ++ tail) " " = [word, name, num n] := by
  refine split_tl (by simp) (fun p hp => ?_) ?_
  · simp only [List.mem_cons, List.not_mem_nil, or_false] at hp
    rcases hp with rfl | rfl | rfl
    · exact hw
    · exact hn
    · exact num_free _
  · simp only [tl_append, hlead, htail, List.map_cons, List.map_nil, joinL, List.append_assoc]
    rfl
theorem low_len {w : Str} (h : LowL (tl w)) : w.length ≤ 8 := by
  rw [len_tl]
  exact h.2.1
theorem ln6 {z : Int} (h0 : -100000 < z) (h1 : z < 100000) : (num z).length ≤ 6 := num_len (k := 5) (by decide) (by omega)
theorem fits1 {z : Int} {f : Str} (hf : f.length = 1) (h : z.natAbs < 10 ^ 60) (h0 : 0 ≤ z ∨ f = "X") : Fits [z] f := by
  refine ⟨by rw [hf]; rfl, (show 1 ≤ 10 by decide), fun y hy => by rw [List.mem_singleton.mp hy]; exact h, fun i y c hi hc hN => ?_⟩
  match i, hi with
  | 0, hi =>
    cases hi
    rcases h0 with h0 | rfl
    · exact h0
    · exfalso
      have e1 : (("X" : Str).cps)[0]? = some 88 := by decide +kernel
      rw [e1] at hc
      cases hc
      revert hN
      decide +kernel
  | i + 1, hi => exact nomatch hi
theorem fits2 {x y : Int} {f : Str} (hf : f.length = 2) (hx : x.natAbs < 10 ^ 60) (hy : y.natAbs < 10 ^ 60) (h0 : (0 ≤ x ∧ f = "NX") ∨ f = "XX") : Fits [x, y] f := by
  refine ⟨by rw [hf]; rfl, (show 2 ≤ 10 by decide), fun z hz => ?_, fun i z c hi hc hN => ?_⟩
  · rcases List.mem_cons.mp hz with rfl | hz
    · exact hx
    · rw [List.mem_singleton.mp hz]
      exact hy
  · have e1 : (("X" : Str).cps)[0]? = some 88 := by decide +kernel
    have a0 : (("NX" : Str).cps)[1]? = some 88 := by decide +kernel
    have b0 : (("XX" : Str).cps)[0]? = some 88 := by decide +kernel
    have b1 : (("XX" : Str).cps)[1]? = some 88 := by decide +kernel
    have nx : ¬ (⟨#[88]⟩ : Str) = "N" := by decide +kernel
    match i, hi with
    | 0, hi =>
      cases hi
      rcases h0 with ⟨h0, _⟩ | rfl
      · exact h0
      · rw [b0] at hc
        cases hc
        exact absurd hN nx
    | 1, hi =>
      rcases h0 with ⟨_, rfl⟩ | rfl
      · rw [a0] at hc
        cases hc
        exact absurd hN nx
      · rw [b1] at hc
        cases hc
        exact absurd hN nx
    | i + 2, hi => exact nomatch hi
/-! ### _law_line_text -/

def sp__law_line_text (K : PySem.W.Frag) : Sp := fun vs H Q _ => ∃ (p : Addr) (l : Ln3), vs = [.ref p] ∧ H p = some (.tup [.int l.1, .int l.2.1, .int l.2.2]) ∧ Sz 1800 l.1 ∧ Sz 1800 l.2.1 ∧ Sz 1800 l.2.2 ∧ ∀ H', Same H H' → Q (.str (rowT [l.1, l.2.1, l.2.2])) H'
theorem ok__law_line_text {P : Program} {w : World} {K : PySem.W.Frag} {mg : Str → Option Value} {base : Heap} (T : Top w K mg base) : FnOk P w K mg base CX0 1 T.f__law_line_text T.fd__law_line_text ["line"] (sp__law_line_text K) := by
  refine T.F__law_line_text.ok sc__law_line_text (fun vs H Q E h => ?_) (fun cdv A outer s H vs Q E hr h => ?_)
  · rcases h with ⟨p, l, rfl, _⟩ <;> rfl
  · obtain ⟨p, l, rfl, e0, s1, s2, s3, q⟩ := h
    refine ⟨_, (pss_one (ps_ret (pe_m1 PySem.F.slot_str_join PySem.F.type_str_join mt_join pe_str (pe_lc (own := [("number", 1)]) (g := gName 1) (tt := tYes) (by rfl) sc__law_line_text.nd (pi_tup (pv 0)) (blkOk_by (own := [("number", 1)]) (N := N__law_line_text) (sc := defScope s__law_line_text) (by decide +kernel)) (fun _ _ _ _ _ => pg_name (i := 1) sc__law_line_text.nd rfl (Or.inl rfl)) (fun _ _ _ _ _ => pts_nil) (fun _ _ _ _ _ => (pe_callTy call_str_int (by rfl) T.n_str (by decide +kernel) (pa_cons (pv 1) pa_nil))))))), ?_⟩
    try rw [st__law_line_text]

    have zr : ∀ z ∈ [l.1, l.2.1, l.2.2], Sz 1800 z := by
      intro z hz
      simp only [List.mem_cons, List.not_mem_nil, or_false] at hz
      rcases hz with rfl | rfl | rfl <;> assumption
    have e0 : H p = some (.tup ([l.1, l.2.1, l.2.2].map V.int)) := e0
    generalize hr : [l.1, l.2.1, l.2.2] = r at *
    have lr : r.length = 3 := by rw [← hr]; rfl
    (repeat (with_reducible first | refine r_v0 ?_ | refine r_C ?_ | refine r_ret ?_ | refine r_iTup ?_ | refine r_lc ?_ | refine r_m1 ?_ | refine r_isStr ?_))
    refine ⟨p, rfl, ⟨_, .inl (.inl e0)⟩, fun D2 nD2 => ?_⟩
    refine lc_ok_tup (xs := r.map V.int) (fun j G' => Same H G' ∧ G' D2 = some (.lst (((r.take j).map num).map V.str))) ⟨same_upd nD2, upd_same⟩ (fun j G' _ z => .inl (.inl (z.1 _ _ e0))) ?_ ?_
    · rintro j x G' hx ⟨sG', eG'⟩
      rw [List.getElem?_map] at hx
      obtain ⟨z, hz', rfl⟩ : ∃ z, r[j]? = some z ∧ V.int z = x := by
        cases h : r[j]? with
        | none => rw [h] at hx; cases hx
        | some u => rw [h] at hx; exact ⟨u, rfl, Option.some.inj hx⟩
      have hj : j < r.length := (List.getElem?_eq_some_iff.mp hz').1
      (repeat ((with_reducible refine' r_gname ?zze ?_); (case zze => exact rfl)))
      refine ⟨rfl, ?_⟩
      (repeat (first | (with_reducible first | refine r_cons ?_ | refine r_nil ?_ | refine r_CB ?_ | refine iteT ?_ | refine r_yes ?_) | ((with_reducible refine' r_var ?zze ?_); (case zze => exact rfl))))
      refine ⟨z, rfl, log_okS (zr z (List.mem_of_getElem? hz')), ?_⟩
      refine acc_mk eG' (by rw [List.length_map, List.length_map, List.length_take]; omega) fun G3 e3 b3 => ?_
      refine ⟨same_but sG' nD2 b3, ?_⟩
      rw [e3, List.take_add_one, hz', List.map_append, List.map_append]
      rfl
    · rintro G' ⟨sG', eG'⟩
      rw [List.length_map, List.take_length] at eG'
      have bl : (" " : Str).length = 1 := by decide +kernel
      have sl := sum_len zr
      refine ⟨" ", D2, r.map num, rfl, rfl, .inl (.inl (.inl eG')), ?_, ?_⟩
      · rw [bl, List.length_map]
        omega
      skip
      exact q G' sG'
/-! ### _law_row -/

def sp__law_row (K : PySem.W.Frag) : Sp := fun vs H Q _ => ∃ (p : Addr) (r : List Int), vs = [.ref p] ∧ H p = some (.tup (r.map V.int)) ∧ r.length ≤ 10 ∧ (∀ z ∈ r, Sz 1800 z) ∧ ∀ H', Same H H' → Q (.str (rowT r)) H'
theorem ok__law_row {P : Program} {w : World} {K : PySem.W.Frag} {mg : Str → Option Value} {base : Heap} (T : Top w K mg base) : FnOk P w K mg base CX0 1 T.f__law_row T.fd__law_row ["numbers"] (sp__law_row K) := by
  refine T.F__law_row.ok sc__law_row (fun vs H Q E h => ?_) (fun cdv A outer s H vs Q E hr h => ?_)
  · rcases h with ⟨p, r, rfl, _⟩ <;> rfl
  · obtain ⟨p, r, rfl, e0, lr, zr, q⟩ := h
    refine ⟨_, (pss_one (ps_ret (pe_m1 PySem.F.slot_str_join PySem.F.type_str_join mt_join pe_str (pe_lc (own := [("number", 1)]) (g := gName 1) (tt := tYes) (by rfl) sc__law_row.nd (pi_tup (pv 0)) (blkOk_by (own := [("number", 1)]) (N := N__law_row) (sc := defScope s__law_row) (by decide +kernel)) (fun _ _ _ _ _ => pg_name (i := 1) sc__law_row.nd rfl (Or.inl rfl)) (fun _ _ _ _ _ => pts_nil) (fun _ _ _ _ _ => (pe_callTy call_str_int (by rfl) T.n_str (by decide +kernel) (pa_cons (pv 1) pa_nil))))))), ?_⟩
    try rw [st__law_row]

    (repeat (with_reducible first | refine r_v0 ?_ | refine r_C ?_ | refine r_ret ?_ | refine r_iTup ?_ | refine r_lc ?_ | refine r_m1 ?_ | refine r_isStr ?_))
    refine ⟨p, rfl, ⟨_, .inl (.inl e0)⟩, fun D2 nD2 => ?_⟩
    refine lc_ok_tup (xs := r.map V.int) (fun j G' => Same H G' ∧ G' D2 = some (.lst (((r.take j).map num).map V.str))) ⟨same_upd nD2, upd_same⟩ (fun j G' _ z => .inl (.inl (z.1 _ _ e0))) ?_ ?_
    · rintro j x G' hx ⟨sG', eG'⟩
      rw [List.getElem?_map] at hx
      obtain ⟨z, hz', rfl⟩ : ∃ z, r[j]? = some z ∧ V.int z = x := by
        cases h : r[j]? with
        | none => rw [h] at hx; cases hx
        | some u => rw [h] at hx; exact ⟨u, rfl, Option.some.inj hx⟩
      have hj : j < r.length := (List.getElem?_eq_some_iff.mp hz').1
      (repeat ((with_reducible refine' r_gname ?zze ?_); (case zze => exact rfl)))
      refine ⟨rfl, ?_⟩
      (repeat (first | (with_reducible first | refine r_cons ?_ | refine r_nil ?_ | refine r_CB ?_ | refine iteT ?_ | refine r_yes ?_) | ((with_reducible refine' r_var ?zze ?_); (case zze => exact rfl))))
      refine ⟨z, rfl, log_okS (zr z (List.mem_of_getElem? hz')), ?_⟩
      refine acc_mk eG' (by rw [List.length_map, List.length_map, List.length_take]; omega) fun G3 e3 b3 => ?_
      refine ⟨same_but sG' nD2 b3, ?_⟩
      rw [e3, List.take_add_one, hz', List.map_append, List.map_append]
      rfl
    · rintro G' ⟨sG', eG'⟩
      rw [List.length_map, List.take_length] at eG'
      have bl : (" " : Str).length = 1 := by decide +kernel
      have sl := sum_len zr
      refine ⟨" ", D2, r.map num, rfl, rfl, .inl (.inl (.inl eG')), ?_, ?_⟩
      · rw [bl, List.length_map]
        omega
      skip
      exact q G' sG'

theorem word_free {word form : Str} {c : CondR} {a : AnsR} (h : WordR word form c a) : 32 ∉ tl word ∧ word.length ≤ 8 ∧ 1 ≤ form.length := by
  cases h <;> exact ⟨by decide +kernel, by decide +kernel, by decide +kernel⟩
/-- a word with its numbers, and what is due -/
def GoodW (l : Ln3) (word : Str) (ns : List Int) (due : List Str) : Prop := due.length ≤ 5000 ∧ ∃ (form : Str) (c : CondR) (a : AnsR), WordR word form c a ∧ Fits ns form ∧ c l.1 l.2.1 l.2.2 ns ∧ ∀ rows, a l.1 l.2.1 l.2.2 ns rows → rows.map rowT = due
/-- a line for the desk, and what is due -/
def AskItem (l : Ln3) (name text : Str) (due : List Str) : Prop := ∃ (word : Str) (ns : List Int), GoodW l word ns due ∧ Txt.split text " " = word :: name :: ns.map num ∧ text.length ≤ 5000
def FItem (H : Hp) (F : Addr) (l : Ln3) (v : V) : Prop := ∃ (p q d : Addr) (word : Str) (ns : List Int) (due : List Str), v = .ref p ∧ H p = some (.tup [.str word, .ref q, .ref d]) ∧ H q = some (.tup (ns.map V.int)) ∧ H d = some (.lst (due.map V.str)) ∧ d ≠ F ∧ GoodW l word ns due
def FL (H : Hp) (F : Addr) (l : Ln3) (n : Nat) : Prop := ∃ vs : List V, H F = some (.lst vs) ∧ vs.length ≤ n ∧ ∀ v ∈ vs, FItem H F l v
theorem FItem.ex {H H' : Hp} {F : Addr} {l : Ln3} {v : V} (x : Ex H H') (h : FItem H F l v) : FItem H' F l v := by
  obtain ⟨p, q, d, word, ns, due, e, h1, h2, h3, h4, h5⟩ := h
  exact ⟨p, q, d, word, ns, due, e, x.tup h1, x.tup h2, x.lst h3, h4, h5⟩
theorem FL.ex {H H' : Hp} {F : Addr} {l : Ln3} {n : Nat} (x : Ex H H') (h : FL H F l n) : FL H' F l n := by
  obtain ⟨vs, e, hn, h⟩ := h
  exact ⟨vs, x.lst e, hn, fun v hv => (h v hv).ex x⟩
theorem FItem.but {H H' : Hp} {F : Addr} {l : Ln3} {v : V} {vs : List V} (e : H F = some (.lst vs)) (b : But F H H') (h : FItem H F l v) : FItem H' F l v := by
  obtain ⟨p, q, d, word, ns, due, e0, h1, h2, h3, h4, h5⟩ := h
  exact ⟨p, q, d, word, ns, due, e0, but_tup e b _ _ h1, but_tup e b _ _ h2, b _ _ h4 h3, h4, h5⟩
/-- what was found, with the table beside -/
structure Fd (H G : Hp) (P F : Addr) (l : Ln3) (n : Nat) : Prop where
  x : Ex H G
  tab : LamX.TabS G P lq_in_order
  fl : FL G F l n
  nw : H F = none
theorem tab_butL {G G' : Hp} {D : Addr} {xs : List V} (e : G D = some (.lst xs)) (b : But D G G') {P : Addr} {q : Str} (t : LamX.TabS G P q) : LamX.TabS G' P q := by
  obtain ⟨ps, h1, h2, h3⟩ := t
  refine ⟨ps, b _ _ (fun z => ?_) h1, h2, fun pos cv hc => ?_⟩
  · rw [z, e] at h1
    cases h1
  · obtain ⟨c, r1, r2⟩ := h3 pos cv hc
    refine ⟨c, r1, b _ _ (fun z => ?_) r2⟩
    rw [z, e] at r2
    unfold LamX.CodeO at r2
    cases r2
theorem ex_butL {H G G' : Hp} {D : Addr} (n : H D = none) (x : Ex H G) (b : But D G G') : Ex H G' := fun c o h m => b c o (ne_of_none h n) (x c o h m)
theorem Fd.same {H G G' : Hp} {P F : Addr} {l : Ln3} {n : Nat} (f : Fd H G P F l n) (s : Same G G') : Fd H G' P F l n := ⟨Ex.trans f.x (Ex.of s), TabS.same f.tab s, f.fl.ex (Ex.of s), f.nw⟩
theorem Fd.ex {H G G' : Hp} {P F : Addr} {l : Ln3} {n : Nat} (f : Fd H G P F l n) (x : Ex G G') (t : LamX.TabS G' P lq_in_order) : Fd H G' P F l n := ⟨Ex.trans f.x x, t, f.fl.ex x, f.nw⟩
theorem Fd.mono {H G : Hp} {P F : Addr} {l : Ln3} {n m : Nat} (f : Fd H G P F l n) (h : n ≤ m) : Fd H G P F l m := by
  obtain ⟨x, t, ⟨vs, e, hl, hv⟩, nw⟩ := f
  exact ⟨x, t, ⟨vs, e, Nat.le_trans hl h, hv⟩, nw⟩
theorem Fd.ty {K : PySem.W.Frag} {H G : Hp} {P F : Addr} {l : Ln3} {n : Nat} (f : Fd H G P F l n) : tyV K "list" (.ref F) G := by
  obtain ⟨vs, e, _⟩ := f.fl
  exact ty_list e
theorem Fd.ne {H G G' : Hp} {P F : Addr} {l : Ln3} {n : Nat} (f : Fd H G P F l n) {d : Addr} (s : Same G G') (h : G' d = none) : d ≠ F := by
  obtain ⟨vs, e, _⟩ := f.fl
  exact fun z => by
    rw [z, s _ _ e] at h
    cases h
theorem Fd.neX {H G G' : Hp} {P F : Addr} {l : Ln3} {n : Nat} (f : Fd H G P F l n) {d : Addr} (x : Ex G G') (h : G' d = none) : d ≠ F := by
  obtain ⟨vs, e, _⟩ := f.fl
  exact fun z => by
    rw [z, x.lst e] at h
    cases h
theorem r_fd {H G : Hp} {Q : VK} {P F : Addr} {l : Ln3} {n : Nat} {p q d : Addr} {word : Str} {ns : List Int} {due : List Str} (f : Fd H G P F l n) (hn : n < 100) (ep : G p = some (.tup [.str word, .ref q, .ref d])) (eq : G q = some (.tup (ns.map V.int))) (ed : G d = some (.lst (due.map V.str))) (nd : d ≠ F) (g : GoodW l word ns due) (k : ∀ G1, Fd H G1 P F l (n + 1) → Q .non G1) : rAppend (.ref F) [.ref p] G Q := by
  obtain ⟨x, t, ⟨vs, e, hl, hv⟩, nw⟩ := f
  refine r_app e (by omega) fun G1 e1 b1 => k G1 ⟨ex_butL nw x b1, tab_butL e b1 t, ⟨_, e1, by rw [List.length_append]; show vs.length + 1 ≤ n + 1; omega, fun v h => ?_⟩, nw⟩
  rcases List.mem_append.mp h with h | h
  · exact (hv v h).but e b1
  · rw [List.mem_singleton.mp h]
    exact FItem.but e b1 ⟨p, q, d, word, ns, due, rfl, ep, eq, ed, nd, g⟩
theorem split_ask {word name : Str} {ns : List Int} (hw : 32 ∉ tl word) (hn : 32 ∉ tl name) (h1 : ns ≠ []) : Txt.split (word ++ " " ++ name ++ " " ++ rowT ns) " " = word :: name :: ns.map num := by
  have b : tl (" " : Str) = [32] := by decide +kernel
  refine split_tl (by simp) (fun p hp => ?_) ?_
  · rcases List.mem_cons.mp hp with rfl | hp
    · exact hw
    · rcases List.mem_cons.mp hp with rfl | hp
      · exact hn
      · obtain ⟨z, _, rfl⟩ := List.mem_map.mp hp
        exact num_free _
  · have e : tl (rowT ns) = joinL [32] ((ns.map num).map tl) := by
      unfold rowT
      rw [join_eq, tl_join, b]
    cases ns with
    | nil => exact absurd rfl h1
    | cons z r => simp only [tl_append, e, b, List.map_cons, joinL, List.append_assoc]
/-- the lines for the desk -/
def AskIt (H : Hp) (l : Ln3) (name : Str) (v : V) : Prop := ∃ (p d : Addr) (text : Str) (due : List Str), v = .ref p ∧ H p = some (.tup [.str text, .ref d]) ∧ H d = some (.lst (due.map V.str)) ∧ AskItem l name text due
theorem AskIt.ex {H H' : Hp} {l : Ln3} {name : Str} {v : V} (x : Ex H H') (h : AskIt H l name v) : AskIt H' l name v := by
  obtain ⟨p, d, text, due, e, h1, h2, h3⟩ := h
  exact ⟨p, d, text, due, e, x.tup h1, x.lst h2, h3⟩
def AskL (H : Hp) (t : Addr) (l : Ln3) (name : Str) : Prop := ∃ vs : List V, H t = some (.lst vs) ∧ vs.length ≤ 100 ∧ ∀ v ∈ vs, AskIt H l name v
theorem ask_len {r : List Int} (h : ∀ z ∈ r, z.natAbs < 10 ^ 60) : (rowT r).length ≤ r.length * 62 := by
  have b : tl (" " : Str) = [32] := by decide +kernel
  have e : tl (rowT r) = joinL [32] (r.map fun z => tl (num z)) := by
    unfold rowT
    rw [join_eq, tl_join, b, List.map_map]
    rfl
  rw [len_tl, e]
  clear e
  induction r with
  | nil => exact Nat.zero_le _
  | cons z r ih =>
    have h1 := num_len (i := z) (k := 60) (by decide) (h z List.mem_cons_self)
    have h2 := ih fun y hy => h y (List.mem_cons_of_mem _ hy)
    rw [len_tl] at h1
    cases r with
    | nil =>
      show (tl (num z)).length ≤ 1 * 62
      omega
    | cons y r =>
      show (tl (num z) ++ ([32] ++ joinL [32] ((y :: r).map fun z => tl (num z)))).length ≤ ((y :: r).length + 1) * 62
      rw [List.length_append, List.length_append]
      have e : ([32] : List Nat).length = 1 := rfl
      omega
theorem one_row {z : Int} : ([[z]] : List (List Int)).map rowT = [num z] := by
  show [rowT [z]] = _
  rw [show rowT [z] = num z from rowT_one z]
def whRows (r : Option Int) : List Str := match r with
  | none => []
  | some p => [num p]
theorem fst_uniq {a b m low high : Int} {r r' : Option Int} (h : Fst a b m low high r) (h' : Fst a b m low high r') : r = r' := by
  cases r with
  | none =>
    cases r' with
    | none => rfl
    | some q => exact absurd h'.2.1 (h q h'.1)
  | some p =>
    cases r' with
    | none => exact absurd h.2.1 (h' p h.1)
    | some q => rw [h.uniq h'.1 h'.2.1 h'.2.2]
/-! ### _law_lines -/

def sp__law_lines (K : PySem.W.Frag) (P : Addr) : Sp := fun vs H Q _ => ∃ (a p : Addr) (ns : List Int) (name : Str) (l : Ln3) (k : Int), vs = [.ref a, .str name, .ref p, .int k] ∧ SqL K H a (ns.map V.int) ∧ ns.length ≤ 63 ∧ LowL (tl name) ∧ H p = some (.tup [.int l.1, .int l.2.1, .int l.2.2]) ∧ 0 < l.2.2 ∧ N60 l.1 ∧ N60 l.2.1 ∧ N60 l.2.2 ∧ 0 ≤ k ∧ k < 500000 ∧ LamX.TabS H P lq_in_order ∧ ∀ (t : Addr) H', Ex H H' → LamX.TabS H' P lq_in_order → AskL H' t l name → Q (.ref t) H'
theorem ok__law_lines {P : Program} {w : World} {K : PySem.W.Frag} {mg : Str → Option Value} {base : Heap} (T : Top w K mg base) : FnOk P w K mg base CX0 10 T.f__law_lines T.fd__law_lines ["script", "name", "line", "at"] (sp__law_lines K T.p_in_order_) := by
  refine T.F__law_lines.ok sc__law_lines (fun vs H Q E h => ?_) (fun cdv A outer s H vs Q E hr h => ?_)
  · rcases h with ⟨a, p, ns, name, l, k, rfl, _⟩ <;> rfl
  · obtain ⟨a, p, ns, name, l, k, rfl, hS, hl, low, e0, m0, na, nb, nm, k0, k1, tab, q⟩ := h
    refine ⟨_, (pss_cons (ps_set (i := 4) sc__law_lines.nd rfl (Or.inl rfl) (pe_call (ok__law_number T) (hr.mono (by decide)) (by rfl) T.g__law_number T.F__law_number.kp T.b__law_number .nil pass0 (pa_cons (pv 0) (pa_cons (pv 3) (pa_cons pe_int pa_nil)))))
  (pss_cons (ps_set (i := 5) sc__law_lines.nd rfl (Or.inl rfl) (pe_op op_mulG (pe_call (ok__law_number T) (hr.mono (by decide)) (by rfl) T.g__law_number T.F__law_number.kp T.b__law_number .nil pass0 (pa_cons (pv 0) (pa_cons (pe_op op_add (pv 3) pe_int) (pa_cons pe_int pa_nil)))) (pe_ix ix_tup (pe_tup (pa_cons pe_int (pa_cons (pe_un un_neg pe_int) pa_nil))) (pe_op op_mod (pe_call (ok__law_draw T) (hr.mono (by decide)) (by rfl) T.g__law_draw T.F__law_draw.kp T.b__law_draw .nil pass0 (pa_cons (pv 0) (pa_cons (pe_op op_add (pv 3) pe_int) pa_nil))) pe_int) (fun _ _ => rfl))))
  (pss_cons (ps_set (i := 6) sc__law_lines.nd rfl (Or.inl rfl) (pe_op op_add (pe_callB call_abs (by rfl) T.n_abs (by decide +kernel) (pa_cons (pv 5) pa_nil)) (pe_call (ok__law_draw T) (hr.mono (by decide)) (by rfl) T.g__law_draw T.F__law_draw.kp T.b__law_draw .nil pass0 (pa_cons (pv 0) (pa_cons (pe_op op_add (pv 3) pe_int) pa_nil)))))
  (pss_cons (ps_set (i := 7) sc__law_lines.nd rfl (Or.inl rfl) (pe_call (ok__law_number T) (hr.mono (by decide)) (by rfl) T.g__law_number T.F__law_number.kp T.b__law_number .nil pass0 (pa_cons (pv 0) (pa_cons (pe_op op_add (pv 3) pe_int) (pa_cons pe_int pa_nil)))))
  (pss_cons (ps_set (i := 8) sc__law_lines.nd rfl (Or.inl rfl) (pe_op op_mod (pe_call (ok__law_number T) (hr.mono (by decide)) (by rfl) T.g__law_number T.F__law_number.kp T.b__law_number .nil pass0 (pa_cons (pv 0) (pa_cons (pe_op op_add (pv 3) pe_int) (pa_cons pe_int pa_nil)))) (pe_ix ix_tup (pv 2) pe_int (fun _ _ => rfl))))
  (pss_cons (ps_set (i := 9) sc__law_lines.nd rfl (Or.inl rfl) (pe_lst (pa_cons (pe_tup (pa_cons pe_str (pa_cons (pe_tup (pa_cons (pv 5) pa_nil)) (pa_cons (pe_lst (pa_cons (pe_callTy call_str_int (by rfl) T.n_str (by decide +kernel) (pa_cons (pe_op op_fdivW (pe_op op_add (pe_op op_mulG (pe_ix ix_tup (pv 2) pe_int (fun _ _ => rfl)) (pv 5)) (pe_ix ix_tup (pv 2) pe_int (fun _ _ => rfl))) (pe_ix ix_tup (pv 2) pe_int (fun _ _ => rfl))) pa_nil)) pa_nil)) pa_nil)))) pa_nil)))
  (pss_cons (ps_expr (pe_bm PySem.F.plainAttrs_list PySem.F.slot_list_append PySem.F.type_list_append mt_append (pv 9) (pa_cons (pe_tup (pa_cons pe_str (pa_cons (pe_tup (pa_cons (pv 5) pa_nil)) (pa_cons (pe_lst (pa_cons (pe_callTy call_str_int (by rfl) T.n_str (by decide +kernel) (pa_cons (pe_op op_mod (pe_op op_add (pe_op op_mulG (pe_ix ix_tup (pv 2) pe_int (fun _ _ => rfl)) (pv 5)) (pe_ix ix_tup (pv 2) pe_int (fun _ _ => rfl))) (pe_ix ix_tup (pv 2) pe_int (fun _ _ => rfl))) pa_nil)) pa_nil)) pa_nil)))) pa_nil)))
  (pss_cons (ps_expr (pe_bm PySem.F.plainAttrs_list PySem.F.slot_list_append PySem.F.type_list_append mt_append (pv 9) (pa_cons (pe_tup (pa_cons pe_str (pa_cons (pe_tup (pa_cons (pv 4) pa_nil)) (pa_cons (pe_lst (pa_cons (pe_callTy call_str_int (by rfl) T.n_str (by decide +kernel) (pa_cons (pe_call (ok_sum_parts T) (hr.mono (by decide)) (by rfl) T.g_sum_parts T.F_sum_parts.kp T.b_sum_parts .nil pass0 (pa_cons (pv 2) (pa_cons (pv 4) pa_nil))) pa_nil)) pa_nil)) pa_nil)))) pa_nil)))
  (pss_cons (ps_expr (pe_bm PySem.F.plainAttrs_list PySem.F.slot_list_append PySem.F.type_list_append mt_append (pv 9) (pa_cons (pe_tup (pa_cons pe_str (pa_cons (pe_tup (pa_cons (pv 4) pa_nil)) (pa_cons (pe_lst (pa_cons (pe_callTy call_str_int (by rfl) T.n_str (by decide +kernel) (pa_cons (pe_call (ok_sum_rests T) (hr.mono (by decide)) (by rfl) T.g_sum_rests T.F_sum_rests.kp T.b_sum_rests .nil pass0 (pa_cons (pv 2) (pa_cons (pv 4) pa_nil))) pa_nil)) pa_nil)) pa_nil)))) pa_nil)))
  (pss_cons (ps_expr (pe_bm PySem.F.plainAttrs_list PySem.F.slot_list_append PySem.F.type_list_append mt_append (pv 9) (pa_cons (pe_tup (pa_cons pe_str (pa_cons (pe_tup (pa_cons (pv 4) pa_nil)) (pa_cons (pe_lst (pa_cons (pe_callTy call_str_int (by rfl) T.n_str (by decide +kernel) (pa_cons (pe_call (ok_sum_squares T) (hr.mono (by decide)) (by rfl) T.g_sum_squares T.F_sum_squares.kp T.b_sum_squares .nil pass0 (pa_cons (pv 2) (pa_cons (pv 4) pa_nil))) pa_nil)) pa_nil)) pa_nil)))) pa_nil)))
  (pss_cons (ps_expr (pe_bm PySem.F.plainAttrs_list PySem.F.slot_list_append PySem.F.type_list_append mt_append (pv 9) (pa_cons (pe_tup (pa_cons pe_str (pa_cons (pe_tup (pa_cons (pv 4) pa_nil)) (pa_cons (pe_lst (pa_cons (pe_callTy call_str_int (by rfl) T.n_str (by decide +kernel) (pa_cons (pe_call (ok_sum_placed T) (hr.mono (by decide)) (by rfl) T.g_sum_placed T.F_sum_placed.kp T.b_sum_placed .nil pass0 (pa_cons (pv 2) (pa_cons (pv 4) pa_nil))) pa_nil)) pa_nil)) pa_nil)))) pa_nil)))
  (pss_cons (ps_expr (pe_bm PySem.F.plainAttrs_list PySem.F.slot_list_append PySem.F.type_list_append mt_append (pv 9) (pa_cons (pe_tup (pa_cons pe_str (pa_cons (pe_tup (pa_cons (pv 5) (pa_cons (pv 6) pa_nil))) (pa_cons (pe_lst (pa_cons (pe_callTy call_str_int (by rfl) T.n_str (by decide +kernel) (pa_cons (pe_call (ok_sum_between T) (hr.mono (by decide)) (by rfl) T.g_sum_between T.F_sum_between.kp T.b_sum_between .nil pass0 (pa_cons (pv 2) (pa_cons (pv 5) (pa_cons (pv 6) pa_nil)))) pa_nil)) pa_nil)) pa_nil)))) pa_nil)))
  (pss_cons (ps_expr (pe_bm PySem.F.plainAttrs_list PySem.F.slot_list_append PySem.F.type_list_append mt_append (pv 9) (pa_cons (pe_tup (pa_cons pe_str (pa_cons (pe_tup (pa_cons (pv 4) (pa_cons (pv 7) pa_nil))) (pa_cons (pe_lst (pa_cons (pe_callTy call_str_int (by rfl) T.n_str (by decide +kernel) (pa_cons (pe_call (ok_rests_beneath T) (hr.mono (by decide)) (by rfl) T.g_rests_beneath T.F_rests_beneath.kp T.b_rests_beneath .nil pass0 (pa_cons (pv 2) (pa_cons (pv 4) (pa_cons (pv 7) pa_nil)))) pa_nil)) pa_nil)) pa_nil)))) pa_nil)))
  (pss_cons (ps_set (i := 10) sc__law_lines.nd rfl (Or.inl rfl) (pe_call (ok_first_within T) (hr.mono (by decide)) (by rfl) T.g_first_within T.F_first_within.kp T.b_first_within .nil pass0 (pa_cons (pv 2) (pa_cons (pv 8) (pa_cons (pe_op op_sub (pe_ix ix_tup (pv 2) pe_int (fun _ _ => rfl)) pe_int) pa_nil)))))
  (pss_cons (ps_expr (pe_bm PySem.F.plainAttrs_list PySem.F.slot_list_append PySem.F.type_list_append mt_append (pv 9) (pa_cons (pe_tup (pa_cons pe_str (pa_cons (pe_tup (pa_cons (pv 8) (pa_cons (pe_op op_sub (pe_ix ix_tup (pv 2) pe_int (fun _ _ => rfl)) pe_int) pa_nil))) (pa_cons (pe_lc (own := [("one", 12)]) (g := gName 12) (by rfl) sc__law_lines.nd (pi_tup (pe_tup (pa_cons (pv 10) pa_nil))) (blkOk_by (own := [("one", 12)]) (N := N__law_lines) (sc := defScope s__law_lines) (by decide +kernel)) (fun _ _ _ _ _ => pg_name (i := 12) sc__law_lines.nd rfl (Or.inl rfl)) (fun _ _ _ _ _ => pts_one (pt_cmpR op_notN (pv 12) pe_non (nomark _))) (fun _ _ _ _ _ => (pe_callTy call_str_int (by rfl) T.n_str (by decide +kernel) (pa_cons (pv 12) pa_nil)))) pa_nil)))) pa_nil)))
  (C8.pss_cut (ps_if (pt_cmpR op_gt (pv 4) pe_int (nomark _)) (pss_one (ps_expr (pe_bm PySem.F.plainAttrs_list PySem.F.slot_list_append PySem.F.type_list_append mt_append (pv 9) (pa_cons (pe_tup (pa_cons pe_str (pa_cons (pe_tup (pa_cons (pv 4) (pa_cons (pe_op op_mod (pv 7) (pv 4)) pa_nil))) (pa_cons (pe_lst (pa_cons (pe_call (ok__law_row T) (hr.mono (by decide)) (by rfl) T.g__law_row T.F__law_row.kp T.b__law_row .nil pass0 (pa_cons (pe_call (ok_in_order T) (hr.mono (by decide)) (by rfl) T.g_in_order T.F_in_order.kp T.b_in_order .nil pass0 (pa_cons (pv 2) (pa_cons (pv 4) (pa_cons (pe_op op_mod (pv 7) (pv 4)) pa_nil)))) pa_nil)) pa_nil)) pa_nil)))) pa_nil)))) pss_nil)
  (pss_cons (ps_setLc (i := 11) (own := [("count", 13), ("there", 14), ("total", 15)]) (g := gTup K 3 (gCons (gName 13) (gCons (gName 14) (gCons (gName 15) gNil)))) (tt := tYes) (by rfl) sc__law_lines.nd rfl rfl (sw_true rfl rfl rfl (by decide +kernel)) (pi_tup (pe_call (ok_sum_paper T) (hr.mono (by decide)) (by rfl) T.g_sum_paper T.F_sum_paper.kp T.b_sum_paper .nil pass0 (pa_cons (pv 2) (pa_cons (pv 4) pa_nil)))) (blkOk_by (own := [("count", 13), ("there", 14), ("total", 15)]) (N := N__law_lines) (sc := defScope s__law_lines) (by decide +kernel)) (fun _ _ _ _ _ => (pg_tup rfl (pgs_cons (pg_name (i := 13) sc__law_lines.nd rfl (Or.inl rfl)) (pgs_cons (pg_name (i := 14) sc__law_lines.nd rfl (Or.inl rfl)) (pgs_cons (pg_name (i := 15) sc__law_lines.nd rfl (Or.inl rfl)) pgs_nil))))) (fun _ _ _ _ _ => pts_nil) (fun _ _ _ _ _ => (pe_call (ok__law_row T) (hr.mono (by decide)) (by rfl) T.g__law_row T.F__law_row.kp T.b__law_row .nil pass0 (pa_cons (pe_op (r := rCatT K) op_catT (pe_op (r := rCatT K) op_catT (pe_tup (pa_cons (pv 13) pa_nil)) (pv 14)) (pe_tup (pa_cons (pv 15) pa_nil))) pa_nil))))
  (pss_cons (ps_expr (pe_bm PySem.F.plainAttrs_list PySem.F.slot_list_append PySem.F.type_list_append mt_append (pv 9) (pa_cons (pe_tup (pa_cons pe_str (pa_cons (pe_tup (pa_cons (pv 4) pa_nil)) (pa_cons (pv 11) pa_nil)))) pa_nil)))
  (pss_one (ps_ret (pe_lc (own := [("word", 16), ("numbers", 17), ("due", 18)]) (g := gTup K 3 (gCons (gName 16) (gCons (gName 17) (gCons (gName 18) gNil)))) (tt := tYes) (by rfl) sc__law_lines.nd (pi_list (pv 9)) (blkOk_by (own := [("word", 16), ("numbers", 17), ("due", 18)]) (N := N__law_lines) (sc := defScope s__law_lines) (by decide +kernel)) (fun _ _ _ _ _ => (pg_tup rfl (pgs_cons (pg_name (i := 16) sc__law_lines.nd rfl (Or.inl rfl)) (pgs_cons (pg_name (i := 17) sc__law_lines.nd rfl (Or.inl rfl)) (pgs_cons (pg_name (i := 18) sc__law_lines.nd rfl (Or.inl rfl)) pgs_nil))))) (fun _ _ _ _ _ => pts_nil) (fun _ _ _ _ _ => (pe_tup (pa_cons (pe_op op_add_str (pe_op op_add_str (pe_op op_add_str (pe_op op_add_str (pv 16) pe_str) (pv 1)) pe_str) (pe_call (ok__law_row T) (hr.mono (by decide)) (by rfl) T.g__law_row T.F__law_row.kp T.b__law_row .nil pass0 (pa_cons (pv 17) pa_nil))) (pa_cons (pv 18) pa_nil))))))))))))))))))))))))), ?_⟩
    try rw [st__law_lines]

    have sa : Sz 300 l.1 := na.sz.mono (by decide)
    have sb : Sz 300 l.2.1 := nb.sz.mono (by decide)
    have sm : Sz 300 l.2.2 := nm.sz.mono (by decide)
    have lg := lg_ok m0 sm
    have fr := low_free low
    have wl := low_len low
    have b1 : (" " : Str).length = 1 := by decide +kernel
    have big : ∀ {x : Nat}, x ≤ 1000 → x ≤ sizeLine := fun h => Nat.le_trans h (by decide)
    have lnG : ∀ {G : Hp}, Ex H G → Ln K G p l.1 l.2.1 l.2.2 := fun x => ⟨.inl (.inl (x.tup e0)), m0, sa.mono (by decide), sb.mono (by decide), sm.mono (by decide)⟩
    (repeat (with_reducible first | refine r_v0 ?_ | refine r_v3 ?_ | refine r_seq ?_ | refine r_asg ?_ | refine r_C ?_ | refine r_cons ?_ | refine r_nil ?_ | refine r_call ?_))
    refine ⟨a, ns, _, _, rfl, hS, hl, by omega, by omega, by decide, by decide, fun n e1 H1 s1 n0 he1 n1 => ?_⟩
    have nn : n.natAbs < 10 ^ 60 := N60.of n0 (by omega) n1
    have sn : Sz 300 n := (N60.sz nn).mono (by decide)
    clear n1 he1 e1
    (repeat (with_reducible first | refine r_v0 ?_ | refine r_v3 ?_ | refine r_gn4 ?_ | refine r_seq ?_ | refine r_asg ?_ | refine r_C ?_ | refine r_op ?_ | refine r_I0 ?_ | refine r_cons ?_ | refine r_nil ?_ | refine r_call ?_))
    refine ⟨a, ns, _, _, rfl, Same.seq s1 hS, hl, by omega, by omega, by decide, by decide, fun x0 e2 H2 s2 x00 he2 x01 => ?_⟩
    have hx0 : x0.natAbs < 10 ^ 59 := N60.of x00 (by omega) x01
    clear x01 he2 e2
    have S2 := s1.trans s2
    clear s1 s2
    (repeat (with_reducible first | refine r_C ?_ | refine r_op ?_ | refine r_un ?_ | refine r_U ?_ | refine r_cons ?_ | refine r_nil ?_ | refine r_tup ?_))
    refine r_litT fun pt H3 n3 s3 e3 => ?_
    (repeat (with_reducible first | refine r_v0 ?_ | refine r_v3 ?_ | refine r_C ?_ | refine r_op ?_ | refine r_I0 ?_ | refine r_cons ?_ | refine r_nil ?_ | refine r_call ?_))
    refine ⟨a, ns, _, rfl, Same.seq (S2.trans s3) hS, hl, by omega, by omega, fun d H4 s4 d0 d1 => ?_⟩
    obtain ⟨sg, hsg, hsv⟩ : ∃ sg : Int, atI [V.int 1, V.int (-1)] (d % 2) = some (.int sg) ∧ (sg = 1 ∨ sg = -1) := by
      obtain h | h : d % 2 = 0 ∨ d % 2 = 1 := by omega
      · rw [h]
        exact ⟨1, rfl, .inl rfl⟩
      · rw [h]
        exact ⟨-1, rfl, .inr rfl⟩
    have S4 := (S2.trans s3).trans s4
    (repeat (first | (with_reducible refine r_C ?_) | ((with_reducible refine r_I ?zzc ?_); (case zzc => first | with_reducible assumption | ((with_reducible apply mul_okA); (repeat' (first | with_reducible assumption | with_reducible apply Sz.mul | with_reducible apply Sz.addM | with_reducible apply Sz.subM | with_reducible apply Sz.neg | exact Sz.lit | decide)); done) | (show (0 : Int) < _; first | with_reducible assumption | decide | omega) | exact mul_okL | exact mul_okR | exact mul_okM | (exact div_ok (by with_reducible assumption) (by with_reducible assumption)) | (exact ⟨by with_reducible assumption, by with_reducible assumption⟩) | (exact ⟨by decide, by decide, by decide⟩) | (exact ⟨by decide, by decide⟩)))))
    refine r_ixT (.inl (.inl (s4 _ _ e3))) hsg ?_
    have sx0 : Sz 200 x0 := N60.sz (show x0.natAbs < 10 ^ 60 by omega)
    have ssg : Sz 10 sg := by
      rcases hsv with rfl | rfl <;> decide
    clear n3 s3 e3 s4 d0 d1 hsg S2
    (repeat (first | (with_reducible first | refine r_v5 ?_ | refine r_gn5 ?_ | refine r_seq ?_ | refine r_asg ?_ | refine r_op ?_ | refine r_cons ?_ | refine r_nil ?_ | refine r_CB ?_) | ((with_reducible refine r_I ?zzc ?_); (case zzc => first | with_reducible assumption | ((with_reducible apply mul_okA); (repeat' (first | with_reducible assumption | with_reducible apply Sz.mul | with_reducible apply Sz.addM | with_reducible apply Sz.subM | with_reducible apply Sz.neg | exact Sz.lit | decide)); done) | (show (0 : Int) < _; first | with_reducible assumption | decide | omega) | exact mul_okL | exact mul_okR | exact mul_okM | (exact div_ok (by with_reducible assumption) (by with_reducible assumption)) | (exact ⟨by with_reducible assumption, by with_reducible assumption⟩) | (exact ⟨by decide, by decide, by decide⟩) | (exact ⟨by decide, by decide⟩)))))
    obtain ⟨x, hx⟩ : ∃ x, x = x0 * sg := ⟨_, rfl⟩
    rw [← hx]
    have hxb : x.natAbs < 10 ^ 59 := by
      rw [hx]
      rcases hsv with rfl | rfl <;> omega
    have sx : Sz 300 x := (N60.sz (show x.natAbs < 10 ^ 60 by omega)).mono (by decide)
    clear hx hsv sx0 ssg hx0 x00
    refine r_abs ?_
    (repeat (with_reducible first | refine r_v0 ?_ | refine r_v3 ?_ | refine r_C ?_ | refine r_op ?_ | refine r_I0 ?_ | refine r_cons ?_ | refine r_nil ?_ | refine r_call ?_))
    refine ⟨a, ns, _, rfl, Same.seq S4 hS, hl, by omega, by omega, fun d2 H5 s5 d20 d21 => ?_⟩
    (repeat (with_reducible first | refine r_v0 ?_ | refine r_v3 ?_ | refine r_gn6 ?_ | refine r_seq ?_ | refine r_asg ?_ | refine r_C ?_ | refine r_op ?_ | refine r_I0 ?_ | refine r_cons ?_ | refine r_nil ?_ | refine r_call ?_))
    obtain ⟨y, hy⟩ : ∃ y, y = (if x < 0 then -x else x) + d2 := ⟨_, rfl⟩
    rw [← hy]
    have xy : x ≤ y := by
      rw [hy]
      split <;> omega
    have hyb : y.natAbs < 10 ^ 60 := by
      rw [hy]
      split <;> omega
    have sy : Sz 300 y := (N60.sz hyb).mono (by decide)
    have S5 := S4.trans s5
    clear hy d20 d21 S4 s5
    refine ⟨a, ns, _, _, rfl, Same.seq S5 hS, hl, by omega, by omega, by decide, by decide, fun bd e6 H6 s6 b0 he6 b1 => ?_⟩
    have hbd : bd.natAbs < 10 ^ 60 := N60.of b0 (by omega) b1
    clear b1 he6 e6
    have S6 := S5.trans s6
    clear S5 s6
    (repeat (with_reducible first | refine r_v0 ?_ | refine r_v3 ?_ | refine r_gn7 ?_ | refine r_seq ?_ | refine r_asg ?_ | refine r_C ?_ | refine r_op ?_ | refine r_I0 ?_ | refine r_cons ?_ | refine r_nil ?_ | refine r_call ?_))
    refine ⟨a, ns, _, _, rfl, Same.seq S6 hS, hl, by omega, by omega, by decide, by decide, fun w0 e7 H7 s7 w00 he7 w01 => ?_⟩
    clear w01 he7 e7
    have S7 := S6.trans s7
    have z7 : SqT K H7 p [.int l.1, .int l.2.1, .int l.2.2] := .inl (.inl (S7 _ _ e0))
    (repeat (first | (with_reducible first | refine r_v2 ?_ | refine r_v5 ?_ | refine r_gn8 ?_ | refine r_seq ?_ | refine r_asg ?_ | refine r_C ?_ | refine r_op ?_ | refine r_cons ?_ | refine r_nil ?_ | refine r_tup ?_ | refine r_lst ?_) | ((with_reducible refine' r_ixT ?zzs ?zze ?_); (case zzs => assumption); (case zze => exact rfl)) | ((with_reducible refine r_I ?zzc ?_); (case zzc => first | with_reducible assumption | ((with_reducible apply mul_okA); (repeat' (first | with_reducible assumption | with_reducible apply Sz.mul | with_reducible apply Sz.addM | with_reducible apply Sz.subM | with_reducible apply Sz.neg | exact Sz.lit | decide)); done) | (show (0 : Int) < _; first | with_reducible assumption | decide | omega) | exact mul_okL | exact mul_okR | exact mul_okM | (exact div_ok (by with_reducible assumption) (by with_reducible assumption)) | (exact ⟨by with_reducible assumption, by with_reducible assumption⟩) | (exact ⟨by decide, by decide, by decide⟩) | (exact ⟨by decide, by decide⟩)))))
    have l0 := Int.emod_nonneg w0 (b := l.2.2) (by omega)
    have l1 := Int.emod_lt_of_pos w0 m0
    generalize w0 % l.2.2 = lw at l0 l1 ⊢
    clear w00 S6 s7
    refine r_litT fun q8 H8 n8 s8 e8 => ?_
    have z8 := Same.seqT s8 z7
    have lx : Sz 700 (l.1 * x + l.2.1) := ((sa.mul sx).add (sb.mono (by decide))).mono (by decide)
    have cd8 : CDivW (l.1 * x + l.2.1) l.2.2 := ⟨m0, lg⟩
    have szp : Sz 1800 ((l.1 * x + l.2.1) / l.2.2) := (lx.div m0).mono (by decide)
    have szr : Sz 1800 ((l.1 * x + l.2.1) % l.2.2) := (sm.mod m0).mono (by decide)
    (repeat (first | (with_reducible first | refine r_v2 ?_ | refine r_v5 ?_ | refine r_C ?_ | refine r_op ?_ | refine r_I0 ?_ | refine r_cons ?_ | refine r_nil ?_ | refine r_CB ?_ | refine r_lst ?_) | ((with_reducible refine' r_ixT ?zzs ?zze ?_); (case zzs => assumption); (case zze => exact rfl)) | ((with_reducible refine r_I ?zzc ?_); (case zzc => first | with_reducible assumption | ((with_reducible apply mul_okA); (repeat' (first | with_reducible assumption | with_reducible apply Sz.mul | with_reducible apply Sz.addM | with_reducible apply Sz.subM | with_reducible apply Sz.neg | exact Sz.lit | decide)); done) | (show (0 : Int) < _; first | with_reducible assumption | decide | omega) | exact mul_okL | exact mul_okR | exact mul_okM | (exact div_ok (by with_reducible assumption) (by with_reducible assumption)) | (exact ⟨by with_reducible assumption, by with_reducible assumption⟩) | (exact ⟨by decide, by decide, by decide⟩) | (exact ⟨by decide, by decide⟩)))))
    refine ⟨_, rfl, log_okS szp, ?_⟩
    (repeat (with_reducible refine r_nil ?_))
    refine r_lit fun d9 H9 n9 s9 e9 => ?_
    (repeat (with_reducible refine r_nil ?_))
    refine r_litT fun p10 H10 n10 s10 e10 => ?_
    (repeat (with_reducible refine r_nil ?_))
    refine r_lit fun F H11 n11 s11 e11 => ?_
    have gx : x.natAbs < 10 ^ 60 := by omega
    have fd : Fd H H11 T.p_in_order_ F l 1 := ⟨Ex.of ((((S7.trans s8).trans s9).trans s10).trans s11), TabS.same tab ((((S7.trans s8).trans s9).trans s10).trans s11), ⟨_, e11, Nat.le_refl _, fun v hv => by
      rw [List.mem_singleton.mp hv]
      refine ⟨p10, q8, d9, "part", [x], [num ((l.1 * x + l.2.1) / l.2.2)], rfl, s11 _ _ e10, s11 _ _ (s10 _ _ (s9 _ _ e8)), s11 _ _ (s10 _ _ e9), ne_of_none (s10 _ _ e9) n11, Nat.le_of_ble_eq_true rfl, _, _, _, .part_, fits1 (by decide +kernel) gx (.inr rfl), ⟨_, rfl⟩, fun rows h => ?_⟩
      rw [h _ rfl, one_row]⟩, Same.free ((((S7.trans s8).trans s9).trans s10)) n11⟩
    clear S7 s8 s9 s10 s11 n8 n9 n10 n11 e8 e9 e10 e11 z7 z8 szp
    (repeat (with_reducible first | refine r_v9 ?_ | refine r_gn9 ?_ | refine r_seq ?_ | refine r_drop ?_ | refine r_bm ?_))
    -- rest
    refine ⟨fd.ty, ?_⟩
    (repeat (with_reducible first | refine r_v5 ?_ | refine r_C ?_ | refine r_cons ?_ | refine r_nil ?_ | refine r_tup ?_))
    refine r_litT fun q1 G1 n1 s1 e1 => ?_
    have z1 : SqT K G1 p [.int l.1, .int l.2.1, .int l.2.2] := (lnG (Ex.trans fd.x (Ex.of s1))).at_
    (repeat (first | (with_reducible first | refine r_v2 ?_ | refine r_v5 ?_ | refine r_C ?_ | refine r_op ?_ | refine r_I0 ?_ | refine r_cons ?_ | refine r_nil ?_ | refine r_CB ?_ | refine r_lst ?_) | ((with_reducible refine' r_ixT ?zzs ?zze ?_); (case zzs => assumption); (case zze => exact rfl)) | ((with_reducible refine r_I ?zzc ?_); (case zzc => first | with_reducible assumption | ((with_reducible apply mul_okA); (repeat' (first | with_reducible assumption | with_reducible apply Sz.mul | with_reducible apply Sz.addM | with_reducible apply Sz.subM | with_reducible apply Sz.neg | exact Sz.lit | decide)); done) | (show (0 : Int) < _; first | with_reducible assumption | decide | omega) | exact mul_okL | exact mul_okR | exact mul_okM | (exact div_ok (by with_reducible assumption) (by with_reducible assumption)) | (exact ⟨by with_reducible assumption, by with_reducible assumption⟩) | (exact ⟨by decide, by decide, by decide⟩) | (exact ⟨by decide, by decide⟩)))))
    refine ⟨_, rfl, log_okS szr, ?_⟩
    (repeat (with_reducible refine r_nil ?_))
    refine r_lit fun d3 G3 n3 s3 e3 => ?_
    (repeat (with_reducible refine r_nil ?_))
    refine r_litT fun p4 G4 n4 s4 e4 => ?_
    (repeat (with_reducible refine r_nil ?_))
    refine r_fd (ns := [x]) (due := [num ((l.1 * x + l.2.1) % l.2.2)]) (fd.same (((s1).trans s3).trans s4)) (by decide) e4 (s4 _ _ (s3 _ _ e1)) (s4 _ _ e3) (fd.ne s1 n3) ⟨Nat.le_of_ble_eq_true rfl, _, _, _, .rest_, fits1 (by decide +kernel) gx (.inr rfl), ⟨_, rfl⟩, fun rows h => by
      rw [h _ rfl, one_row]⟩ fun G5 fd' => ?_
    clear fd s1 s3 s4 n1 n3 n4 e1 e3 e4 z1
    have fd := fd'
    clear fd'
    (repeat (with_reducible first | refine r_v9 ?_ | refine r_seq ?_ | refine r_drop ?_ | refine r_bm ?_))
    -- sum
    refine ⟨fd.ty, ?_⟩
    (repeat (with_reducible first | refine r_v4 ?_ | refine r_C ?_ | refine r_cons ?_ | refine r_nil ?_ | refine r_tup ?_))
    refine r_litT fun q1 G1 n1 s1 e1 => ?_
    have L1 := lnG (Ex.trans fd.x (Ex.of s1))
    (repeat (with_reducible first | refine r_v2 ?_ | refine r_v4 ?_ | refine r_cons ?_ | refine r_nil ?_ | refine r_call ?_ | refine r_CB ?_ | refine r_lst ?_))
    refine ⟨p, _, _, _, n, rfl, L1, n0, sn.mono (by decide), fun G2 s2 => ?_⟩
    (repeat (with_reducible refine r_nil ?_))
    refine ⟨_, rfl, log_okS (sz_sumP m0 sa sb sm n0 sn), ?_⟩
    (repeat (with_reducible refine r_nil ?_))
    refine r_lit fun d3 G3 n3 s3 e3 => ?_
    (repeat (with_reducible refine r_nil ?_))
    refine r_litT fun p4 G4 n4 s4 e4 => ?_
    (repeat (with_reducible refine r_nil ?_))
    refine r_fd (ns := [n]) (due := [num (sumP l.1 l.2.1 l.2.2 n.toNat)]) (fd.same ((((s1.trans s2)).trans s3).trans s4)) (by decide) e4 (s4 _ _ (s3 _ _ (s2 _ _ e1))) (s4 _ _ e3) (fd.ne (s1.trans s2) n3) ⟨Nat.le_of_ble_eq_true rfl, _, _, _, .sum_, fits1 (by decide +kernel) nn (.inl n0), ⟨_, rfl, n0⟩, fun rows h => by
      rw [h _ rfl, one_row]⟩ fun G5 fd' => ?_
    clear fd s1 s3 s4 n1 n3 n4 e1 e3 e4 s2 L1
    have fd := fd'
    clear fd'
    (repeat (with_reducible first | refine r_v9 ?_ | refine r_seq ?_ | refine r_drop ?_ | refine r_bm ?_))
    -- rests
    refine ⟨fd.ty, ?_⟩
    (repeat (with_reducible first | refine r_v4 ?_ | refine r_C ?_ | refine r_cons ?_ | refine r_nil ?_ | refine r_tup ?_))
    refine r_litT fun q1 G1 n1 s1 e1 => ?_
    have L1 := lnG (Ex.trans fd.x (Ex.of s1))
    (repeat (with_reducible first | refine r_v2 ?_ | refine r_v4 ?_ | refine r_cons ?_ | refine r_nil ?_ | refine r_call ?_ | refine r_CB ?_ | refine r_lst ?_))
    refine ⟨p, _, _, _, n, rfl, L1, n0, sn.mono (by decide), fun G2 s2 => ?_⟩
    (repeat (with_reducible refine r_nil ?_))
    refine ⟨_, rfl, log_okS (sz_sumR m0 sa sb sm n0 sn), ?_⟩
    (repeat (with_reducible refine r_nil ?_))
    refine r_lit fun d3 G3 n3 s3 e3 => ?_
    (repeat (with_reducible refine r_nil ?_))
    refine r_litT fun p4 G4 n4 s4 e4 => ?_
    (repeat (with_reducible refine r_nil ?_))
    refine r_fd (ns := [n]) (due := [num (sumR l.1 l.2.1 l.2.2 n.toNat)]) (fd.same ((((s1.trans s2)).trans s3).trans s4)) (by decide) e4 (s4 _ _ (s3 _ _ (s2 _ _ e1))) (s4 _ _ e3) (fd.ne (s1.trans s2) n3) ⟨Nat.le_of_ble_eq_true rfl, _, _, _, .rests_, fits1 (by decide +kernel) nn (.inl n0), ⟨_, rfl, n0⟩, fun rows h => by
      rw [h _ rfl, one_row]⟩ fun G5 fd' => ?_
    clear fd s1 s3 s4 n1 n3 n4 e1 e3 e4 s2 L1
    have fd := fd'
    clear fd'
    (repeat (with_reducible first | refine r_v9 ?_ | refine r_seq ?_ | refine r_drop ?_ | refine r_bm ?_))
    -- squares
    refine ⟨fd.ty, ?_⟩
    (repeat (with_reducible first | refine r_v4 ?_ | refine r_C ?_ | refine r_cons ?_ | refine r_nil ?_ | refine r_tup ?_))
    refine r_litT fun q1 G1 n1 s1 e1 => ?_
    have L1 := lnG (Ex.trans fd.x (Ex.of s1))
    (repeat (with_reducible first | refine r_v2 ?_ | refine r_v4 ?_ | refine r_cons ?_ | refine r_nil ?_ | refine r_call ?_ | refine r_CB ?_ | refine r_lst ?_))
    refine ⟨p, _, _, _, n, rfl, L1, n0, sn.mono (by decide), fun G2 s2 => ?_⟩
    (repeat (with_reducible refine r_nil ?_))
    refine ⟨_, rfl, log_okS (sz_sumS m0 sa sb sm n0 sn), ?_⟩
    (repeat (with_reducible refine r_nil ?_))
    refine r_lit fun d3 G3 n3 s3 e3 => ?_
    (repeat (with_reducible refine r_nil ?_))
    refine r_litT fun p4 G4 n4 s4 e4 => ?_
    (repeat (with_reducible refine r_nil ?_))
    refine r_fd (ns := [n]) (due := [num (sumS l.1 l.2.1 l.2.2 n.toNat)]) (fd.same ((((s1.trans s2)).trans s3).trans s4)) (by decide) e4 (s4 _ _ (s3 _ _ (s2 _ _ e1))) (s4 _ _ e3) (fd.ne (s1.trans s2) n3) ⟨Nat.le_of_ble_eq_true rfl, _, _, _, .squares_, fits1 (by decide +kernel) nn (.inl n0), ⟨_, rfl, n0⟩, fun rows h => by
      rw [h _ rfl, one_row]⟩ fun G5 fd' => ?_
    clear fd s1 s3 s4 n1 n3 n4 e1 e3 e4 s2 L1
    have fd := fd'
    clear fd'
    (repeat (with_reducible first | refine r_v9 ?_ | refine r_seq ?_ | refine r_drop ?_ | refine r_bm ?_))
    -- placed
    refine ⟨fd.ty, ?_⟩
    (repeat (with_reducible first | refine r_v4 ?_ | refine r_C ?_ | refine r_cons ?_ | refine r_nil ?_ | refine r_tup ?_))
    refine r_litT fun q1 G1 n1 s1 e1 => ?_
    have L1 := lnG (Ex.trans fd.x (Ex.of s1))
    (repeat (with_reducible first | refine r_v2 ?_ | refine r_v4 ?_ | refine r_cons ?_ | refine r_nil ?_ | refine r_call ?_ | refine r_CB ?_ | refine r_lst ?_))
    refine ⟨p, _, _, _, n, rfl, L1, n0, sn.mono (by decide), fun G2 s2 => ?_⟩
    (repeat (with_reducible refine r_nil ?_))
    refine ⟨_, rfl, log_okS (sz_sumX m0 sa sb sm n0 sn), ?_⟩
    (repeat (with_reducible refine r_nil ?_))
    refine r_lit fun d3 G3 n3 s3 e3 => ?_
    (repeat (with_reducible refine r_nil ?_))
    refine r_litT fun p4 G4 n4 s4 e4 => ?_
    (repeat (with_reducible refine r_nil ?_))
    refine r_fd (ns := [n]) (due := [num (sumX l.1 l.2.1 l.2.2 n.toNat)]) (fd.same ((((s1.trans s2)).trans s3).trans s4)) (by decide) e4 (s4 _ _ (s3 _ _ (s2 _ _ e1))) (s4 _ _ e3) (fd.ne (s1.trans s2) n3) ⟨Nat.le_of_ble_eq_true rfl, _, _, _, .placed_, fits1 (by decide +kernel) nn (.inl n0), ⟨_, rfl, n0⟩, fun rows h => by
      rw [h _ rfl, one_row]⟩ fun G5 fd' => ?_
    clear fd s1 s3 s4 n1 n3 n4 e1 e3 e4 s2 L1
    have fd := fd'
    clear fd'
    (repeat (with_reducible first | refine r_v9 ?_ | refine r_seq ?_ | refine r_drop ?_ | refine r_bm ?_))
    -- between
    refine ⟨fd.ty, ?_⟩
    (repeat (with_reducible first | refine r_v5 ?_ | refine r_v6 ?_ | refine r_C ?_ | refine r_cons ?_ | refine r_nil ?_ | refine r_tup ?_))
    refine r_litT fun q1 G1 n1 s1 e1 => ?_
    have L1 := lnG (Ex.trans fd.x (Ex.of s1))
    (repeat (with_reducible first | refine r_v2 ?_ | refine r_v5 ?_ | refine r_v6 ?_ | refine r_cons ?_ | refine r_nil ?_ | refine r_call ?_ | refine r_CB ?_ | refine r_lst ?_))
    refine ⟨p, _, _, _, x, y, rfl, L1, sa.mono (by decide), sb.mono (by decide), sx.mono (by decide), xy, (sy.sub sx).mono (by decide), fun G2 s2 => ?_⟩
    (repeat (with_reducible refine r_nil ?_))
    refine ⟨_, rfl, log_okS (sz_sumP m0 sa (((sa.mul sx).mono (b := 700) (by decide)).add (sb.mono (by decide))) sm (by omega) (sy.sub sx)), ?_⟩
    (repeat (with_reducible refine r_nil ?_))
    refine r_lit fun d3 G3 n3 s3 e3 => ?_
    (repeat (with_reducible refine r_nil ?_))
    refine r_litT fun p4 G4 n4 s4 e4 => ?_
    (repeat (with_reducible refine r_nil ?_))
    refine r_fd (ns := [x, y]) (due := [num (sumP l.1 (l.1 * x + l.2.1) l.2.2 (y - x).toNat)]) (fd.same ((((s1.trans s2)).trans s3).trans s4)) (by decide) e4 (s4 _ _ (s3 _ _ (s2 _ _ e1))) (s4 _ _ e3) (fd.ne (s1.trans s2) n3) ⟨Nat.le_of_ble_eq_true rfl, _, _, _, .between_, fits2 (by decide +kernel) gx hyb (.inr rfl), ⟨_, _, rfl, xy⟩, fun rows h => by
      rw [h _ _ rfl, one_row]⟩ fun G5 fd' => ?_
    clear fd s1 s3 s4 n1 n3 n4 e1 e3 e4 s2 L1
    have fd := fd'
    clear fd'
    (repeat (with_reducible first | refine r_v9 ?_ | refine r_seq ?_ | refine r_drop ?_ | refine r_bm ?_))
    -- beneath
    refine ⟨fd.ty, ?_⟩
    (repeat (with_reducible first | refine r_v4 ?_ | refine r_v7 ?_ | refine r_C ?_ | refine r_cons ?_ | refine r_nil ?_ | refine r_tup ?_))
    refine r_litT fun q1 G1 n1 s1 e1 => ?_
    have L1 := lnG (Ex.trans fd.x (Ex.of s1))
    (repeat (with_reducible first | refine r_v2 ?_ | refine r_v4 ?_ | refine r_v7 ?_ | refine r_cons ?_ | refine r_nil ?_ | refine r_call ?_ | refine r_CB ?_ | refine r_lst ?_))
    refine ⟨p, _, _, _, n, bd, rfl, L1, sb.mono (by decide), sm.mono (by decide), n0, sn.mono (by decide), fun G2 s2 => ?_⟩
    (repeat (with_reducible refine r_nil ?_))
    refine ⟨_, rfl, log_okS (sz_cnt n0 sn), ?_⟩
    (repeat (with_reducible refine r_nil ?_))
    refine r_lit fun d3 G3 n3 s3 e3 => ?_
    (repeat (with_reducible refine r_nil ?_))
    refine r_litT fun p4 G4 n4 s4 e4 => ?_
    (repeat (with_reducible refine r_nil ?_))
    refine r_fd (ns := [n, bd]) (due := [num (cntB l.1 l.2.1 l.2.2 bd n.toNat)]) (fd.same ((((s1.trans s2)).trans s3).trans s4)) (by decide) e4 (s4 _ _ (s3 _ _ (s2 _ _ e1))) (s4 _ _ e3) (fd.ne (s1.trans s2) n3) ⟨Nat.le_of_ble_eq_true rfl, _, _, _, .beneath_, fits2 (by decide +kernel) nn hbd (.inl ⟨n0, rfl⟩), ⟨_, _, rfl, n0⟩, fun rows h => by
      rw [h _ _ rfl, one_row]⟩ fun G5 fd' => ?_
    clear fd s1 s3 s4 n1 n3 n4 e1 e3 e4 s2 L1
    have fd := fd'
    clear fd'
    (repeat (with_reducible first | refine r_v2 ?_ | refine r_v8 ?_ | refine r_seq ?_ | refine r_asg ?_ | refine r_C ?_ | refine r_op ?_ | refine r_cons ?_ | refine r_call ?_))
    -- within
    have z5 : SqT K G5 p [.int l.1, .int l.2.1, .int l.2.2] := (lnG fd.x).at_
    (repeat (first | (with_reducible first | refine r_C ?_ | refine r_I0 ?_ | refine r_nil ?_) | ((with_reducible refine' r_ixT ?zzs ?zze ?_); (case zzs => assumption); (case zze => exact rfl))))
    refine ⟨p, _, _, _, lw, l.2.2 - 1, rfl, z5, m0, sm.mono (by decide), l0, by omega, by omega, fun r G6 s6 hf => ?_⟩
    clear z5
    have fd := fd.same s6
    have z6 : SqT K G6 p [.int l.1, .int l.2.1, .int l.2.2] := (lnG fd.x).at_
    have nlw : lw.natAbs < 10 ^ 60 := by
      unfold N60 at nm
      omega
    have nm1 : (l.2.2 - 1).natAbs < 10 ^ 60 := by
      unfold N60 at nm
      omega
    (repeat (with_reducible first | refine r_v9 ?_ | refine r_gn10 ?_ | refine r_seq ?_ | refine r_drop ?_ | refine r_bm ?_))
    refine ⟨fd.ty, ?_⟩
    (repeat (first | (with_reducible first | refine r_v2 ?_ | refine r_v8 ?_ | refine r_C ?_ | refine r_op ?_ | refine r_I0 ?_ | refine r_cons ?_ | refine r_nil ?_ | refine r_tup ?_) | ((with_reducible refine' r_ixT ?zzs ?zze ?_); (case zzs => assumption); (case zze => exact rfl))))
    refine r_litT fun q1 G1 n1 s1 e1 => ?_
    (repeat (with_reducible first | refine r_v10 ?_ | refine r_cons ?_ | refine r_nil ?_ | refine r_tup ?_ | refine r_iTup ?_ | refine r_lc ?_))
    refine r_litT fun p2 G2 n2 s2 e2 => ?_
    refine ⟨p2, rfl, ⟨_, .inl (.inl e2)⟩, fun D nD => ?_⟩
    refine lc_ok_tup (xs := [oV r]) (fun j G' => Same G2 G' ∧ G' D = some (.lst ((if j = 0 then [] else whRows r).map V.str))) ⟨same_upd nD, upd_same⟩ (fun j G' _ z => .inl (.inl (z.1 _ _ e2))) ?_ ?_
    · rintro j v G' hv ⟨sG', eG'⟩
      match j, hv with
      | j + 1, hv => exact nomatch hv
      | 0, hv =>
        cases hv
        cases r with
        | none =>
          rw [show oV none = V.non from rfl]
          (repeat ((with_reducible refine' r_gname ?zze ?_); (case zze => exact rfl)))
          refine ⟨rfl, ?_⟩
          (repeat (first | (with_reducible first | refine r_C ?_ | refine r_op ?_ | refine r_test ?_ | refine r_bl ?_ | refine r_notN ?_) | ((with_reducible refine' r_var ?zze ?_); (case zze => exact rfl))))
          exact ⟨sG', eG'⟩
        | some f =>
          rw [show oV (some f) = V.int f from rfl]
          (repeat ((with_reducible refine' r_gname ?zze ?_); (case zze => exact rfl)))
          refine ⟨rfl, ?_⟩
          (repeat (first | (with_reducible first | refine r_C ?_ | refine r_op ?_ | refine r_test ?_ | refine r_bl ?_ | refine r_notN ?_) | ((with_reducible refine' r_var ?zze ?_); (case zze => exact rfl))))
          refine r_itb (fun _ => ?_) (fun h => by simp at h)
          (repeat (first | (with_reducible first | refine r_cons ?_ | refine r_nil ?_ | refine r_CB ?_) | ((with_reducible refine' r_var ?zze ?_); (case zze => exact rfl))))
          refine ⟨f, rfl, log_okS (sz_first m0 sm hf), ?_⟩
          refine acc_mk eG' (show 0 < 1000 by decide) fun G3 e3 b3 => ?_
          exact ⟨same_but sG' nD b3, e3⟩
    rintro G3 ⟨s3, e3⟩
    have e3 : G3 D = some (.lst ((whRows r).map V.str)) := e3
    (repeat (with_reducible refine r_nil ?_))
    refine r_litT fun p4 G4 n4 s4 e4 => ?_
    (repeat (with_reducible refine r_nil ?_))
    refine r_fd (ns := [lw, l.2.2 - 1]) (due := whRows r) (fd.same (((s1.trans s2).trans s3).trans s4)) (by decide) e4 (s4 _ _ (s3 _ _ (s2 _ _ e1))) (s4 _ _ e3) (fd.ne (s1.trans s2) nD) ⟨?_, _, _, _, .within_, fits2 (by decide +kernel) nlw nm1 (.inr rfl), ⟨_, _, rfl, l0, by omega, by omega⟩, fun rows h => ?_⟩ fun G5 fd' => ?_
    · cases r <;> exact Nat.le_of_ble_eq_true rfl
    · obtain ⟨r', hf', hr⟩ := h _ _ rfl
      obtain rfl := fst_uniq hf hf'
      rw [hr]
      cases r with
      | none => rfl
      | some f => exact one_row
    clear fd s1 s2 s3 s4 s6 n1 n2 n4 e1 e2 e3 e4 z6 nD hf
    have fd := fd'
    clear fd'
    skip
    refine r_cutS (fun G => Fd H G T.p_in_order_ F l 11) ?_ ?_
    · (repeat (with_reducible first | refine r_v4 ?_ | refine r_C ?_ | refine r_op ?_ | refine r_I0 ?_ | refine r_if ?_ | refine r_test ?_ | refine r_bl ?_))
      refine r_ite (fun hn => ?_) (fun hn => ?_)
      · obtain ⟨N, rfl⟩ : ∃ N : Nat, n = (N : Int) := ⟨n.toNat, by omega⟩
        have N0 : (0 : Int) < (N : Int) := hn
        have k00 := Int.emod_nonneg bd (b := (N : Int)) (by omega)
        have k11 := Int.emod_lt_of_pos bd N0
        (repeat (with_reducible first | refine r_v9 ?_ | refine r_drop ?_ | refine r_bm ?_))
        refine ⟨fd.ty, ?_⟩
        (repeat (first | (with_reducible first | refine r_v4 ?_ | refine r_v7 ?_ | refine r_C ?_ | refine r_op ?_ | refine r_cons ?_ | refine r_nil ?_ | refine r_tup ?_) | ((with_reducible refine r_I ?zzc ?_); (case zzc => first | with_reducible assumption | ((with_reducible apply mul_okA); (repeat' (first | with_reducible assumption | with_reducible apply Sz.mul | with_reducible apply Sz.addM | with_reducible apply Sz.subM | with_reducible apply Sz.neg | exact Sz.lit | decide)); done) | (show (0 : Int) < _; first | with_reducible assumption | decide | omega) | exact mul_okL | exact mul_okR | exact mul_okM | (exact div_ok (by with_reducible assumption) (by with_reducible assumption)) | (exact ⟨by with_reducible assumption, by with_reducible assumption⟩) | (exact ⟨by decide, by decide, by decide⟩) | (exact ⟨by decide, by decide⟩)))))
        refine r_litT fun q1 G1 n1 s1 e1 => ?_
        have L1 := lnG (Ex.trans fd.x (Ex.of s1))
        (repeat (first | (with_reducible first | refine r_v2 ?_ | refine r_v4 ?_ | refine r_v7 ?_ | refine r_op ?_ | refine r_cons ?_ | refine r_nil ?_ | refine r_call ?_ | refine r_lst ?_) | ((with_reducible refine r_I ?zzc ?_); (case zzc => first | with_reducible assumption | ((with_reducible apply mul_okA); (repeat' (first | with_reducible assumption | with_reducible apply Sz.mul | with_reducible apply Sz.addM | with_reducible apply Sz.subM | with_reducible apply Sz.neg | exact Sz.lit | decide)); done) | (show (0 : Int) < _; first | with_reducible assumption | decide | omega) | exact mul_okL | exact mul_okR | exact mul_okM | (exact div_ok (by with_reducible assumption) (by with_reducible assumption)) | (exact ⟨by with_reducible assumption, by with_reducible assumption⟩) | (exact ⟨by decide, by decide, by decide⟩) | (exact ⟨by decide, by decide⟩)))))
        refine ⟨p, _, _, _, N, bd % (N : Int), rfl, L1, sb.mono (by decide), sm.mono (by decide), sn.mono (by decide), k00, k11, TabS.same fd.tab s1, fun t rr xx G2 x2 tab2 e2 ho => ?_⟩
        (repeat (with_reducible refine r_nil ?_))
        refine ⟨t, [rr, xx], rfl, e2, (show 2 ≤ 10 by decide), sz_ord m0 sm sn ho, fun G3 s3 => ?_⟩
        (repeat (with_reducible refine r_nil ?_))
        refine r_lit fun d4 G4 n4 s4 e4 => ?_
        (repeat (with_reducible refine r_nil ?_))
        refine r_litT fun p5 G6 n5 s5 e5 => ?_
        (repeat (with_reducible refine r_nil ?_))
        refine r_fd (ns := [(N : Int), bd % (N : Int)]) (due := [rowT [rr, xx]]) ((((fd.same s1).ex x2 tab2).same (s3.trans s4)).same s5) (by decide) e5 (s5 _ _ (s4 _ _ (s3 _ _ (x2.tup e1)))) (s5 _ _ e4) (((fd.same s1).ex x2 tab2).ne s3 n4) ⟨Nat.le_of_ble_eq_true rfl, _, _, _, .order_, fits2 (by decide +kernel) nn (by omega) (.inl ⟨by omega, rfl⟩), ⟨_, _, rfl, k00, k11⟩, fun rows h => ?_⟩ fun G7 fd' => ?_
        · obtain ⟨r', x', ho', hr⟩ := h _ _ rfl
          rw [Int.toNat_natCast] at ho'
          obtain ⟨rfl, rfl⟩ := ho.uniq m0 ho'
          rw [hr]
          rfl
        skip
        exact ⟨rfl, fd'.mono (by decide)⟩
      · (repeat (with_reducible refine r_next ?_))
        exact ⟨rfl, fd.mono (by decide)⟩
    clear fd
    intro G8 fd
    have L8 := lnG fd.x
    obtain ⟨ql, hPa⟩ := Pa.of L8 n0 (sn.mono (by decide))
    have few := hPa.few2
    (repeat (with_reducible first | refine r_v2 ?_ | refine r_v4 ?_ | refine r_seq ?_ | refine r_asg ?_ | refine r_cons ?_ | refine r_nil ?_ | refine r_call ?_ | refine r_iTup ?_ | refine r_lc ?_))
    refine ⟨p, _, _, _, n, ql, rfl, L8, hPa, fun t vs G1 s1 e1 R1 => ?_⟩
    have lv : vs.length = ql.length := by rw [R1.len, tots_len]
    skip
    refine ⟨t, rfl, ⟨_, .inl (.inl e1)⟩, fun D nD => ?_⟩
    refine lc_ok_tup (xs := vs) (fun j G' => Same G1 G' ∧ G' D = some (.lst ((((tots ql).take j).map fun u => rowT (row5 u)).map V.str))) ⟨same_upd nD, upd_same⟩ (fun j G' _ z => .inl (.inl (z.1 _ _ e1))) ?_ ?_
    · rintro j v G' hv ⟨sG', eG'⟩
      obtain ⟨u, hu, pr, pu, rfl, er, zl⟩ := (R1.more (Tk.of sG')).get hv
      have zr : SqT K G' pr [.int u.1.1, .ref pu, .int u.2] := .inl (.inl er)
      have hj : j < (tots ql).length := (List.getElem?_eq_some_iff.mp hu).1
      rw [tots_len] at hj
      (repeat (first | (with_reducible first | refine r_gcons ?_ | refine r_gnil ?_) | ((with_reducible refine' r_gname ?zze ?_); (case zze => exact rfl)) | ((with_reducible refine' r_gtup ?zzs ?zzl ?_); (case zzs => assumption); (case zzl => exact rfl))))
      refine ⟨rfl, ?_⟩
      (repeat (first | (with_reducible first | refine r_op ?_ | refine r_cons ?_ | refine r_nil ?_ | refine r_call ?_ | refine r_tup ?_ | refine iteT ?_ | refine r_yes ?_) | ((with_reducible refine' r_var ?zze ?_); (case zze => exact rfl))))
      refine r_litT fun p2 G2 n2 s2 e2 => ?_
      (repeat ((with_reducible refine' r_var ?zze ?_); (case zze => exact rfl)))
      refine r_catT (.inl (.inl e2)) (Same.seqT s2 zl) (by simp) (by simp) (Nat.le_of_ble_eq_true rfl) fun p3 G3 n3 s3 e3 => ?_
      (repeat (first | (with_reducible first | refine r_cons ?_ | refine r_nil ?_ | refine r_tup ?_) | ((with_reducible refine' r_var ?zze ?_); (case zze => exact rfl))))
      refine r_litT fun p4 G4 n4 s4 e4 => ?_
      skip
      refine r_catT (.inl (.inl (s4 _ _ e3))) (.inl (.inl e4)) (by simp) (by simp) (Nat.le_of_ble_eq_true rfl) fun p5 G5 n5 s5 e5 => ?_
      (repeat (with_reducible refine r_nil ?_))
      refine ⟨p5, row5 u, rfl, e5, (show 5 ≤ 10 by decide), pa_sizes hPa sa sb sm sn u (List.mem_of_getElem? hu), fun G6 s6 => ?_⟩
      have S := (((s2.trans s3).trans s4).trans s5).trans s6
      refine acc_mkL (S _ _ eG') (by rw [List.length_map, List.length_map, List.length_take]; omega) fun G7 e7 b7 => ?_
      refine ⟨same_but (sG'.trans S) nD b7, ?_⟩
      rw [e7, List.take_add_one, hu, List.map_append, List.map_append]
      rfl
    rintro G2 ⟨s2, e2⟩
    rw [R1.len, List.take_length] at e2
    have nDF := fd.ne s1 nD
    have fd := fd.same (s1.trans s2)
    clear s1 s2 R1 e1 nD lv L8
    (repeat (with_reducible first | refine r_v9 ?_ | refine r_gn11 ?_ | refine r_seq ?_ | refine r_drop ?_ | refine r_bm ?_))
    refine ⟨fd.ty, ?_⟩
    (repeat (with_reducible first | refine r_v4 ?_ | refine r_C ?_ | refine r_cons ?_ | refine r_nil ?_ | refine r_tup ?_))
    refine r_litT fun q1 G1 n1 s1 e1 => ?_
    (repeat (with_reducible first | refine r_v11 ?_ | refine r_cons ?_ | refine r_nil ?_))
    refine r_litT fun p4 G4 n4 s4 e4 => ?_
    (repeat (with_reducible refine r_nil ?_))
    refine r_fd (ns := [n]) (due := (tots ql).map fun u => rowT (row5 u)) (fd.same (s1.trans s4)) (by decide) e4 (s4 _ _ e1) (s4 _ _ (s1 _ _ e2)) nDF ⟨?_, _, _, _, .paper_, fits1 (by decide +kernel) nn (.inl n0), ⟨_, rfl, n0⟩, fun rows h => ?_⟩ fun G9 fd' => ?_
    · rw [List.length_map, tots_len]
      exact few
    · obtain ⟨l', h', hr⟩ := h _ rfl
      rw [hr, h'.det hPa, List.map_map]
      rfl
    clear fd s1 s4 n1 n4 e1 e4 e2 nDF hPa few
    obtain ⟨vs, ef, lf, hf⟩ := fd'.fl
    (repeat (with_reducible first | refine r_v9 ?_ | refine r_ret ?_ | refine r_iList ?_ | refine r_lc ?_))
    refine ⟨F, rfl, ⟨_, .inl (.inl ef)⟩, fun D nD => ?_⟩
    refine lc_ok_list (xs := vs) (fun j G' => Same G9 G' ∧ ∃ us : List V, G' D = some (.lst us) ∧ us.length = j ∧ ∀ v ∈ us, ∃ (p d : Addr) (text : Str) (due : List Str), v = .ref p ∧ G' p = some (.tup [.str text, .ref d]) ∧ G9 d = some (.lst (due.map V.str)) ∧ AskItem l name text due) ⟨same_upd nD, [], upd_same, rfl, fun v h => nomatch h⟩ (fun j G' _ z => .inl (.inl (z.1 _ _ ef))) ?_ ?_
    · rintro j v G' hv ⟨sG', us, eG', lus, hus⟩
      obtain ⟨pt, qt, dt, word, ms, due, rfl, h1, h2, h3, h4, gw⟩ := hf v (List.mem_of_getElem? hv)
      have z : SqT K G' pt [.str word, .ref qt, .ref dt] := .inl (.inl (sG' _ _ h1))
      have gw2 := gw
      obtain ⟨_, form, c, an, W, Fi, _⟩ := gw2
      obtain ⟨wf, wlen, fl⟩ := word_free W
      have lms := Fi.2.1
      have lrow := ask_len Fi.2.2.1
      have hms : ms ≠ [] := fun e => by
        have := Fi.1
        rw [e] at this
        have : 0 = form.length := this
        omega
      have hj : j < vs.length := (List.getElem?_eq_some_iff.mp hv).1
      (repeat (first | (with_reducible first | refine r_gcons ?_ | refine r_gnil ?_) | ((with_reducible refine' r_gname ?zze ?_); (case zze => exact rfl)) | ((with_reducible refine' r_gtup ?zzs ?zzl ?_); (case zzs => assumption); (case zzl => exact rfl))))
      refine ⟨rfl, ?_⟩
      (repeat (first | (with_reducible first | refine r_C ?_ | refine r_op ?_ | refine r_cons ?_ | refine r_tup ?_ | refine iteT ?_ | refine r_yes ?_ | refine r_str2 ?_) | ((with_reducible refine' r_var ?zze ?_); (case zze => exact rfl))))
      refine ⟨big (by omega), ?_⟩
      (repeat (first | (with_reducible refine r_str2 ?_) | ((with_reducible refine' r_var ?zze ?_); (case zze => exact rfl))))
      refine ⟨big (by rw [len_append]; omega), ?_⟩
      (repeat (with_reducible first | refine r_C ?_ | refine r_str2 ?_))
      refine ⟨big (by rw [len_append, len_append]; omega), ?_⟩
      (repeat (first | (with_reducible first | refine r_cons ?_ | refine r_nil ?_ | refine r_call ?_) | ((with_reducible refine' r_var ?zze ?_); (case zze => exact rfl))))
      refine ⟨qt, ms, rfl, sG' _ _ h2, lms, fun z hz => (N60.sz (Fi.2.2.1 z hz)).mono (by decide), fun G2 s2 => ?_⟩
      (repeat (with_reducible refine r_str2 ?_))
      refine ⟨big (by rw [len_append, len_append, len_append]; omega), ?_⟩
      (repeat (first | (with_reducible first | refine r_cons ?_ | refine r_nil ?_) | ((with_reducible refine' r_var ?zze ?_); (case zze => exact rfl))))
      refine r_litT fun p3 G3 n3 s3 e3 => ?_
      have S := s2.trans s3
      refine acc_mk (S _ _ eG') (by omega) fun G4 e4 b4 => ?_
      have nt := but_tup (S _ _ eG') b4
      refine ⟨same_but (sG'.trans S) nD b4, _, e4, by rw [List.length_append, lus]; rfl, fun v hv => ?_⟩
      rcases List.mem_append.mp hv with hv | hv
      · obtain ⟨p', d', text, due', e, f1, f2, f3⟩ := hus v hv
        exact ⟨p', d', text, due', e, nt _ _ (S _ _ f1), f2, f3⟩
      · rw [List.mem_singleton.mp hv]
        exact ⟨p3, dt, _, due, rfl, nt _ _ e3, h3, word, ms, gw, split_ask wf fr hms, by
          rw [len_append, len_append, len_append, len_append]
          omega⟩
    rintro G2 ⟨s2, us, e2, lus, hus⟩
    skip
    refine q D G2 (Ex.trans fd'.x (Ex.of s2)) (TabS.same fd'.tab s2) ⟨us, e2, by omega, fun v hv => ?_⟩
    obtain ⟨p', d', text, due', e, f1, f2, f3⟩ := hus v hv
    exact ⟨p', d', text, due', e, f1, s2 _ _ f2, f3⟩

theorem ex_butA {H G G' : Hp} {D : Addr} (n : NewA H D) (x : Ex H G) (b : But D G G') : Ex H G' := fun c o h m => b c o (fun z => by
  obtain ⟨ps, e⟩ := n o (z ▸ h)
  exact m ps e) (x c o h m)
theorem NewA.back {H G : Hp} {t : Addr} (x : Ex H G) (n : NewA G t) : NewA H t := fun o h => by
  cases o with
  | tbl ps => exact ⟨ps, rfl⟩
  | _ => exact n _ (x _ _ h (fun _ z => nomatch z))
theorem DeskAt.but {C : Addr} {H H' : Hp} {dk dl : Addr} {n : Nat} {tb : Str → Option Ln3} {D : Addr} {xs : List V} (A : DeskAt C H dk dl n tb) (e : H D = some (.lst xs)) (b : But D H H') : DeskAt C H' dk dl n tb := by
  obtain ⟨dx, kvs, e1, e2, e3, e4⟩ := A
  refine ⟨dx, kvs, b _ _ (fun z => by rw [z, e] at e1; cases e1) e1, b _ _ (fun z => by rw [z, e] at e2; cases e2) e2, e3, fun z => ?_⟩
  have := e4 z
  cases h : tb z with
  | none => rw [h] at this; exact this
  | some l =>
    rw [h] at this
    obtain ⟨p, h1, h2⟩ := this
    exact ⟨p, h1, but_tup e b _ _ h2⟩
theorem ask_item {w : World} {K : PySem.W.Frag} {mg : Str → Option Value} {base : Heap} (T : Top w K mg base) {H : Hp} {Q : VK} {E : XK} {dk dl : Addr} {c : Nat} {tb : Str → Option Ln3} {name text : Str} {l : Ln3} {due : List Str} (D : DeskAt T.c_Desk H dk dl c tb) (tab : LamX.TabS H T.p_in_order_ lq_in_order) (hl : tb name = some l) (m0 : 0 < l.2.2) (sa : Sz 300 l.1) (sb : Sz 300 l.2.1) (sm : Sz 300 l.2.2) (it : AskItem l name text due)
    (k : ∀ (t : Addr) H', Ex H H' → NewA H t → DeskAt T.c_Desk H' dk dl c tb → LamX.TabS H' T.p_in_order_ lq_in_order → H' t = some (.lst (due.map V.str)) → (∀ y ∈ due, Asc y) → Q (.ref t) H') : sp_Desk_ask T [.ref dk, .str text] H Q E := by
  obtain ⟨word, ns, ⟨_, form, co, an, W, F, hc, U⟩, hsp, hlen⟩ := it
  refine ⟨dk, dl, c, tb, text, rfl, hlen, D, tab, .inr (.inl ⟨name, word, form, l, ns, co, an, hsp, hl, m0, sa, sb, sm, W, F, hc, fun t rows H' x nA tab' ha e => ?_⟩)⟩
  have u := U rows ha
  exact k t H' x nA (D.ex x) tab' (by rw [← u]; exact e) fun y hy => by
    rw [← u] at hy
    obtain ⟨r, _, rfl⟩ := List.mem_map.mp hy
    exact asc_row r
/-! ### _law_told_right -/

def sp__law_told_right {w : World} {K : PySem.W.Frag} {mg : Str → Option Value} {base : Heap} (T : Top w K mg base) : Sp := fun vs H Q _ => ∃ (dk dl t : Addr) (c : Nat) (tb : Str → Option Ln3) (name : Str) (l : Ln3), vs = [.ref dk, .ref t] ∧ DeskAt T.c_Desk H dk dl c tb ∧ LamX.TabS H T.p_in_order_ lq_in_order ∧ tb name = some l ∧ 0 < l.2.2 ∧ Sz 300 l.1 ∧ Sz 300 l.2.1 ∧ Sz 300 l.2.2 ∧ AskL H t l name ∧ ∀ H', Ex H H' → LamX.TabS H' T.p_in_order_ lq_in_order → Q (.bl true) H'
theorem ok__law_told_right {P : Program} {w : World} {K : PySem.W.Frag} {mg : Str → Option Value} {base : Heap} (T : Top w K mg base) : FnOk P w K mg base CX0 13 T.f__law_told_right T.fd__law_told_right ["desk", "lines"] (sp__law_told_right T) := by
  refine T.F__law_told_right.ok sc__law_told_right (fun vs H Q E h => ?_) (fun cdv A outer s H vs Q E hr h => ?_)
  · rcases h with ⟨dk, dl, t, c, tb, name, l, rfl, _⟩ <;> rfl
  · obtain ⟨dk, dl, t, c, tb, name, l, rfl, D, tab, hl, m0, sa, sb, sm, ⟨vs, et, lvs, hA⟩, q⟩ := h
    refine ⟨_, (pss_cons (ps_set (i := 2) sc__law_told_right.nd rfl (Or.inl rfl) (pe_lst pa_nil))
  (pss_cons (ps_set (i := 3) sc__law_told_right.nd rfl (Or.inl rfl) (pe_lst pa_nil))
  (pss_cons (ps_for PassesOwn.never rfl (pi_list (pv 1)) (pg_tup rfl (pgs_cons (pg_name (i := 4) sc__law_told_right.nd rfl (Or.inl rfl)) (pgs_cons (pg_name (i := 5) sc__law_told_right.nd rfl (Or.inl rfl)) pgs_nil)))
  (pss_cons (ps_set (i := 6) sc__law_told_right.nd rfl (Or.inl rfl) (pe_meth (pv 0) T.cl_Desk T.m_Desk_ask (ok_Desk_ask T) (hr.mono (by decide)) T.b_Desk_ask .nil pass0 (pa_cons (pv 4) pa_nil)))
  (pss_cons (ps_set (i := 7) sc__law_told_right.nd rfl (Or.inl rfl) (pe_meth (pv 0) T.cl_Desk T.m_Desk_ask (ok_Desk_ask T) (hr.mono (by decide)) T.b_Desk_ask .nil pass0 (pa_cons (pv 4) pa_nil)))
  (pss_cons (ps_if (PW.pt (pw_or (pt_cmpR (op_neD hr.units) (pv 6) (pv 5) (nomark _)) (pw_or (pt_cmpR (op_neD hr.units) (pv 7) (pv 5) (nomark _)) (pw_or1 (pt_cmpR (op_neD hr.units) (pv 2) (pv 3) (nomark _)))))) (pss_one (ps_ret pe_bl)) pss_nil)
  (pss_cons (ps_expr (pe_bm PySem.F.plainAttrs_list PySem.F.slot_list_append PySem.F.type_list_append mt_append (pv 7) (pa_cons pe_str pa_nil)))
  (pss_cons (ps_if (pt_cmpR (op_neD hr.units) (pe_meth (pv 0) T.cl_Desk T.m_Desk_ask (ok_Desk_ask T) (hr.mono (by decide)) T.b_Desk_ask .nil pass0 (pa_cons (pv 4) pa_nil)) (pv 5) (nomark _)) (pss_one (ps_ret pe_bl)) pss_nil)
  (pss_cons (ps_set (i := 2) sc__law_told_right.nd rfl (Or.inl rfl) (pv 6))
  (pss_one (ps_set (i := 3) sc__law_told_right.nd rfl (Or.inl rfl) (pv 5))))))))))
  (pss_one (ps_ret (pe_cmpR (op_eqD hr.units) (pv 2) (pv 3) (nomark _))))))), ?_⟩
    try rw [st__law_told_right]

    (repeat (with_reducible first | refine r_seq ?_ | refine r_asg ?_ | refine r_nil ?_ | refine r_lst ?_))
    refine r_lit fun p1 H1 n1 s1 e1 => ?_
    (repeat (with_reducible first | refine r_gn2 ?_ | refine r_seq ?_ | refine r_asg ?_ | refine r_nil ?_ | refine r_lst ?_))
    refine r_lit fun p2 H2 n2 s2 e2 => ?_
    have S2 := s1.trans s2
    have et2 := S2 _ _ et
    (repeat (with_reducible first | refine r_v1 ?_ | refine r_gn3 ?_ | refine r_seq ?_ | refine r_for ?_ | refine r_iList ?_))
    refine ⟨t, rfl, ⟨_, .inl (.inl et2)⟩, ?_⟩
    refine loop_list (xs := vs) (fun i σ G => ∃ (ph ps : Addr) (ys : List Str) (v4 v5 v6 v7 : Option V), σ = [some (.ref dk), some (.ref t), some (.ref ph), some (.ref ps), v4, v5, v6, v7] ∧ Ex H G ∧ LamX.TabS G T.p_in_order_ lq_in_order ∧ G ph = some (.lst (ys.map V.str)) ∧ G ps = some (.lst (ys.map V.str)) ∧ ∀ y ∈ ys, Asc y) ⟨p1, p2, [], _, _, _, _, rfl, Ex.of S2, TabS.same tab S2, s2 _ _ e1, e2, fun y hy => nomatch hy⟩ (fun i σ G _ ⟨_, _, _, _, _, _, _, _, xG, _⟩ => .inl (.inl (xG.lst et))) ?_ ?_
    · rintro i v σ G hv ⟨ph, ps, ys, v4, v5, v6, v7, rfl, xG, tabG, eh, es, asY⟩
      obtain ⟨p, d, text, due, rfl, ep, ed, it⟩ := (hA v (List.mem_of_getElem? hv)).ex xG
      have z : SqT K G p [.str text, .ref d] := .inl (.inl ep)
      have DG := D.ex xG
      have ld : due.length ≤ 5000 := by
        obtain ⟨_, _, ⟨h, _⟩, _⟩ := it
        exact h
      (repeat (first | (with_reducible first | refine r_v0 ?_ | refine r_gn4 ?_ | refine r_gn5 ?_ | refine r_seq ?_ | refine r_asg ?_ | refine r_gcons ?_ | refine r_gnil ?_ | refine r_meth ?_) | ((with_reducible refine' r_gtup ?zzs ?zzl ?_); (case zzs => assumption); (case zzl => exact rfl))))
      refine desk_meth DG (by decide +kernel) ?_
      (repeat (with_reducible first | refine r_v4 ?_ | refine r_cons ?_ | refine r_nil ?_))
      refine ask_item T DG tabG hl m0 sa sb sm it fun t1 G1 x1 nw1 D1 tab1 f1 asc => ?_
      clear z
      (repeat (with_reducible first | refine r_v0 ?_ | refine r_gn6 ?_ | refine r_seq ?_ | refine r_asg ?_ | refine r_meth ?_))
      refine desk_meth D1 (by decide +kernel) ?_
      (repeat (with_reducible first | refine r_v4 ?_ | refine r_cons ?_ | refine r_nil ?_))
      refine ask_item T D1 tab1 hl m0 sa sb sm it fun t2 G2 x2 nw2 D2 tab2 f2 _ => ?_
      have ed1 := x1.lst ed
      (repeat (with_reducible first | refine r_v5 ?_ | refine r_v6 ?_ | refine r_gn7 ?_ | refine r_seq ?_ | refine r_op ?_ | refine r_if ?_ | refine r_test ?_ | refine r_or ?_))
      refine r_neSs (x2.lst f1) (x2.lst ed1) asc ?_
      (repeat (with_reducible first | refine r_v5 ?_ | refine r_v7 ?_ | refine r_op ?_ | refine r_test ?_ | refine r_bl ?_ | refine r_or ?_ | refine iteF ?_))
      refine r_neSs f2 (x2.lst ed1) asc ?_
      (repeat (with_reducible first | refine r_v2 ?_ | refine r_v3 ?_ | refine r_op ?_ | refine r_test ?_ | refine r_bl ?_ | refine iteF ?_))
      refine r_neSs (x2.lst (x1.lst eh)) (x2.lst (x1.lst es)) asY ?_
      (repeat (with_reducible first | refine r_v7 ?_ | refine r_seq ?_ | refine r_next ?_ | refine r_drop ?_ | refine r_bl ?_ | refine iteF ?_ | refine r_bm ?_))
      refine ⟨ty_list f2, ?_⟩
      (repeat (with_reducible first | refine r_C ?_ | refine r_cons ?_ | refine r_nil ?_))
      refine r_appP f2 (by rw [List.length_map]; omega) fun G3 e3 b3 => ?_
      have x03 : Ex H G3 := ex_butA (nw2.back (Ex.trans xG x1)) (Ex.trans xG (Ex.trans x1 x2)) b3
      have D3 := D2.but f2 b3
      have tab3 := tab_butL f2 b3 tab2
      have g1 := b3 _ _ (nw2.lst f1) (x2.lst f1)
      have gd := b3 _ _ (nw2.lst ed1) (x2.lst ed1)
      clear D1 tab1 D2 tab2 b3 e3 f2 f1 nw1 nw2 eh es asY ed1
      (repeat (with_reducible first | refine r_v0 ?_ | refine r_seq ?_ | refine r_op ?_ | refine r_if ?_ | refine r_test ?_ | refine r_meth ?_))
      refine desk_meth D3 (by decide +kernel) ?_
      (repeat (with_reducible first | refine r_v4 ?_ | refine r_cons ?_ | refine r_nil ?_))
      refine ask_item T D3 tab3 hl m0 sa sb sm it fun t4 G4 x4 nw4 D4 tab4 f4 _ => ?_
      (repeat (with_reducible refine r_v5 ?_))
      refine r_neSs f4 (x4.lst gd) asc ?_
      (repeat (with_reducible first | refine r_v5 ?_ | refine r_v6 ?_ | refine r_gn2 ?_ | refine r_gn3 ?_ | refine r_seq ?_ | refine r_next ?_ | refine r_asg ?_ | refine r_bl ?_ | refine iteF ?_))
      exact ⟨t1, d, due, _, _, _, _, rfl, Ex.trans x03 x4, tab4, x4.lst g1, x4.lst gd, asc⟩
    · rintro σ G ⟨ph, ps, ys, v4, v5, v6, v7, rfl, xG, tabG, eh, es, asY⟩
      (repeat (with_reducible first | refine r_v2 ?_ | refine r_v3 ?_ | refine r_op ?_ | refine r_ret ?_))
      exact r_eqS (dp_strsA eh) (dp_strsA es) (shaped_strsA ys asY) (q G xG tabG)

/-- all but tables and dicts stand -/
def Kx (H H' : Hp) : Prop := ∀ b o, H b = some o → (∀ ps, o ≠ .tbl ps) → (∀ kvs, o ≠ .dK kvs) → H' b = some o
theorem Kx.refl (H : Hp) : Kx H H := fun _ _ h _ _ => h
theorem Kx.trans {H H1 H2 : Hp} (e : Kx H H1) (k : Kx H1 H2) : Kx H H2 := fun b o h n m => k b o (e b o h n m) n m
theorem Kx.ex {H H' : Hp} (e : Ex H H') : Kx H H' := fun b o h n _ => e b o h n
theorem Kx.of {H H' : Hp} (e : Same H H') : Kx H H' := fun b o h _ _ => e b o h
theorem Kx.lst {H H' : Hp} (e : Kx H H') {p : Addr} {xs : List V} (h : H p = some (.lst xs)) : H' p = some (.lst xs) := e _ _ h (fun _ z => nomatch z) (fun _ z => nomatch z)
theorem Kx.tup {H H' : Hp} (e : Kx H H') {p : Addr} {xs : List V} (h : H p = some (.tup xs)) : H' p = some (.tup xs) := e _ _ h (fun _ z => nomatch z) (fun _ z => nomatch z)
theorem Kx.seqL {K : PySem.W.Frag} {H H' : Hp} {a : Addr} {xs : List V} (e : Kx H H') (h : SqL K H a xs) : SqL K H' a xs := by
  rcases h with (z | ⟨o, z⟩) | z
  · exact .inl (.inl (e.lst z))
  · exact .inl (.inr ⟨o, e _ _ z (fun _ y => nomatch y) (fun _ y => nomatch y)⟩)
  · exact .inr z
theorem Kx.off {C : Addr} {H H' : Hp} {dk dl : Addr} {n : Nat} {tb : Str → Option Ln3} (D : DeskAt C H dk dl n tb) (o : Off dl H H') : Kx H H' := by
  obtain ⟨dx, kvs, e1, e2, _⟩ := D
  intro b u h _ nd
  refine o b u h fun z => ?_
  rw [z, e2] at h
  exact nd _ (Option.some.inj h).symm
theorem tab_off {C : Addr} {H H' : Hp} {dk dl : Addr} {n : Nat} {tb : Str → Option Ln3} (D : DeskAt C H dk dl n tb) (o : Off dl H H') {P : Addr} {q : Str} (t : LamX.TabS H P q) : LamX.TabS H' P q := by
  obtain ⟨dx, kvs, e1, e2, _⟩ := D
  obtain ⟨ps, h1, h2, h3⟩ := t
  refine ⟨ps, o _ _ h1 fun z => ?_, h2, fun pos cv hc => ?_⟩
  · rw [z, e2] at h1
    cases h1
  · obtain ⟨c, r1, r2⟩ := h3 pos cv hc
    refine ⟨c, r1, o _ _ r2 fun z => ?_⟩
    rw [z, e2] at r2
    unfold LamX.CodeO at r2
    cases r2
theorem DeskAt.mono {C : Addr} {H : Hp} {dk dl : Addr} {n m : Nat} {tb : Str → Option Ln3} (D : DeskAt C H dk dl n tb) (h : n ≤ m) : DeskAt C H dk dl m tb := by
  obtain ⟨dx, kvs, e1, e2, e3, e4⟩ := D
  exact ⟨dx, kvs, e1, e2, Nat.le_trans e3 h, e4⟩
theorem tl_row (r : List Int) : tl (rowT r) = joinL [32] (r.map fun z => tl (num z)) := by
  have b : tl (" " : Str) = [32] := by decide +kernel
  unfold rowT
  rw [join_eq, tl_join, b, List.map_map]
  rfl
theorem split_line {name : Str} {l : Ln3} (hn : 32 ∉ tl name) : Txt.split ("line " ++ name ++ " " ++ rowT [l.1, l.2.1, l.2.2]) " " = [("line" : Str), name, num l.1, num l.2.1, num l.2.2] := by
  have b : tl (" " : Str) = [32] := by decide +kernel
  have b2 : tl ("line " : Str) = tl ("line" : Str) ++ [32] := by decide +kernel
  refine split_tl (by simp) (fun p hp => ?_) ?_
  · simp only [List.mem_cons, List.not_mem_nil, or_false] at hp
    rcases hp with rfl | rfl | rfl | rfl | rfl
    · decide +kernel
    · exact hn
    · exact num_free _
    · exact num_free _
    · exact num_free _
  · simp only [tl_append, tl_row, b, b2, List.map_cons, List.map_nil, joinL, List.append_assoc]
theorem len_row {r : List Int} (h : ∀ z ∈ r, Sz 1800 z) : (rowT r).length ≤ r.length * 1801 + r.length := by
  rw [len_tl, tl_row]
  have h2 := sum_len h
  have key : ∀ r : List Int, (joinL [32] (r.map fun z => tl (num z))).length ≤ ((r.map num).map fun x => x.length).sum + r.length := by
    intro r
    induction r with
    | nil => exact Nat.zero_le _
    | cons z r ih =>
      cases r with
      | nil =>
        show (tl (num z)).length ≤ (num z).length + 0 + 1
        rw [← len_tl]
        omega
      | cons y r =>
        show (tl (num z) ++ ([32] ++ joinL [32] ((y :: r).map fun z => tl (num z)))).length ≤ (num z).length + (((y :: r).map num).map fun x => x.length).sum + ((y :: r).length + 1)
        rw [List.length_append, List.length_append, ← len_tl]
        have e : ([32] : List Nat).length = 1 := rfl
        omega
  have := key r
  omega
theorem len_line {l : Ln3} (na : N60 l.1) (nb : N60 l.2.1) (nm : N60 l.2.2) : (rowT [l.1, l.2.1, l.2.2]).length ≤ 186 := ask_len fun z hz => by
  simp only [List.mem_cons, List.not_mem_nil, or_false] at hz
  rcases hz with rfl | rfl | rfl <;> assumption
/-- a line is put in -/
theorem ask_put {w : World} {K : PySem.W.Frag} {mg : Str → Option Value} {base : Heap} (T : Top w K mg base) {H : Hp} {Q : VK} {E : XK} {dk dl : Addr} {c : Nat} {tb : Str → Option Ln3} {name : Str} {l : Ln3} (D : DeskAt T.c_Desk H dk dl c tb) (tab : LamX.TabS H T.p_in_order_ lq_in_order) (hc : c ≤ 1000) (low : LowL (tl name)) (m0 : 0 < l.2.2) (na : N60 l.1) (nb : N60 l.2.1) (nm : N60 l.2.2)
    (k : ∀ (t : Addr) H', Kx H H' → DeskAt T.c_Desk H' dk dl (c + 1) (putT tb name l) → LamX.TabS H' T.p_in_order_ lq_in_order → H' t = some (.lst []) → Q (.ref t) H') : sp_Desk_ask T [.ref dk, .str ("line " ++ name ++ " " ++ rowT [l.1, l.2.1, l.2.2])] H Q E := by
  have l1 : ("line " : Str).length = 5 := by decide +kernel
  have b1 : (" " : Str).length = 1 := by decide +kernel
  have wl := low_len low
  have ll := len_line na nb nm
  exact ⟨dk, dl, c, tb, _, rfl, by rw [len_append, len_append, len_append]; omega, D, tab, .inl ⟨name, l, hc, split_line (low_free low), name_low low, m0, na, nb, nm, fun t H' off D' e => k t H' (Kx.off D off) D' (tab_off D off tab) e⟩⟩
theorem split_pts {high : Int} {name other : Str} (hn : 32 ∉ tl name) (ho : 32 ∉ tl other) : Txt.split ("points -7 " ++ num high ++ " " ++ name ++ " ; " ++ other) " " = ("points" : Str) :: num (-7) :: num high :: ([name] ++ (";" : Str) :: [other]) := by
  have b : tl (" " : Str) = [32] := by decide +kernel
  have b2 : tl ("points -7 " : Str) = tl ("points" : Str) ++ 32 :: (tl (num (-7)) ++ [32]) := by decide +kernel
  have b3 : tl (" ; " : Str) = 32 :: (tl (";" : Str) ++ [32]) := by decide +kernel
  refine split_tl (by simp) (fun p hp => ?_) ?_
  · simp only [List.mem_cons, List.not_mem_nil, or_false, List.cons_append, List.nil_append] at hp
    rcases hp with rfl | rfl | rfl | rfl | rfl | rfl
    · decide +kernel
    · exact num_free _
    · exact num_free _
    · exact hn
    · decide +kernel
    · exact ho
  · simp [tl_append, b, b2, b3, joinL, List.append_assoc]
/-! ### law -/

def sp_law (K : PySem.W.Frag) (P : Addr) : Sp := fun vs H Q _ => ∃ (a : Addr) (ns : List Int), vs = [.ref a] ∧ SqL K H a (ns.map V.int) ∧ ns.length ≤ 63 ∧ LamX.TabS H P lq_in_order ∧ ∀ H', Q (.bl true) H'
theorem ok_law {P : Program} {w : World} {K : PySem.W.Frag} {mg : Str → Option Value} {base : Heap} (T : Top w K mg base) : FnOk P w K mg base CX0 14 T.f_law T.fd_law ["script"] (sp_law K T.p_in_order_) := by
  refine T.F_law.ok sc_law (fun vs H Q E h => ?_) (fun cdv A outer s H vs Q E hr h => ?_)
  · rcases h with ⟨a, ns, rfl, _⟩ <;> rfl
  · obtain ⟨a, ns, rfl, hS, hl, tab, q⟩ := h
    refine ⟨_, (pss_cons (ps_set (i := 1) sc_law.nd rfl (Or.inl rfl) (pe_make0 T.mk_Desk (ok_Desk_init T) (hr.mono (by decide)) (by rfl) T.g_Desk T.b_Desk_init .nil pass0))
  (pss_cons (ps_set (i := 2) sc_law.nd rfl (Or.inl rfl) (pe_call (ok__law_name T) (hr.mono (by decide)) (by rfl) T.g__law_name T.F__law_name.kp T.b__law_name .nil pass0 (pa_cons (pv 0) (pa_cons pe_int pa_nil))))
  (pss_cons (ps_set (i := 3) sc_law.nd rfl (Or.inl rfl) (pe_call (ok__law_name T) (hr.mono (by decide)) (by rfl) T.g__law_name T.F__law_name.kp T.b__law_name .nil pass0 (pa_cons (pv 0) (pa_cons pe_int pa_nil))))
  (pss_cons (ps_for PassesOwn.never rfl (pi_range1 (by rfl) T.n_range (pa_cons pe_int pa_nil)) (pg_name (i := 4) sc_law.nd rfl (Or.inl rfl))
  (pss_cons (ps_set (i := 5) sc_law.nd rfl (Or.inl rfl) (pe_call (ok__law_line T) (hr.mono (by decide)) (by rfl) T.g__law_line T.F__law_line.kp T.b__law_line .nil pass0 (pa_cons (pv 0) (pa_cons (pe_op op_add pe_int (pe_op op_mulG pe_int (pv 4))) (pa_cons pe_int pa_nil)))))
  (pss_cons (ps_set (i := 6) sc_law.nd rfl (Or.inl rfl) (pe_call (ok__law_line T) (hr.mono (by decide)) (by rfl) T.g__law_line T.F__law_line.kp T.b__law_line .nil pass0 (pa_cons (pv 0) (pa_cons (pe_op op_add pe_int (pe_op op_mulG pe_int (pv 4))) (pa_cons pe_int pa_nil)))))
  (pss_cons (ps_if (pt_cmpR (op_neD hr.units) (pe_meth (pv 1) T.cl_Desk T.m_Desk_ask (ok_Desk_ask T) (hr.mono (by decide)) T.b_Desk_ask .nil pass0 (pa_cons (pe_op op_add_str (pe_op op_add_str (pe_op op_add_str pe_str (pv 2)) pe_str) (pe_call (ok__law_line_text T) (hr.mono (by decide)) (by rfl) T.g__law_line_text T.F__law_line_text.kp T.b__law_line_text .nil pass0 (pa_cons (pv 5) pa_nil))) pa_nil)) (pe_lst pa_nil) (nomark _)) (pss_one (ps_ret pe_bl)) pss_nil)
  (pss_cons (ps_if (pt_cmpR (op_neD hr.units) (pe_meth (pv 1) T.cl_Desk T.m_Desk_ask (ok_Desk_ask T) (hr.mono (by decide)) T.b_Desk_ask .nil pass0 (pa_cons (pe_op op_add_str (pe_op op_add_str (pe_op op_add_str pe_str (pv 3)) pe_str) (pe_call (ok__law_line_text T) (hr.mono (by decide)) (by rfl) T.g__law_line_text T.F__law_line_text.kp T.b__law_line_text .nil pass0 (pa_cons (pv 6) pa_nil))) pa_nil)) (pe_lst pa_nil) (nomark _)) (pss_one (ps_ret pe_bl)) pss_nil)
  (pss_cons (ps_if (pt_not (pt_val (pe_call (ok__law_told_right T) (hr.mono (by decide)) (by rfl) T.g__law_told_right T.F__law_told_right.kp T.b__law_told_right .nil pass0 (pa_cons (pv 1) (pa_cons (pe_call (ok__law_lines T) (hr.mono (by decide)) (by rfl) T.g__law_lines T.F__law_lines.kp T.b__law_lines .nil pass0 (pa_cons (pv 0) (pa_cons (pv 2) (pa_cons (pv 5) (pa_cons (pe_op op_add pe_int (pe_op op_mulG pe_int (pv 4))) pa_nil))))) pa_nil))))) (pss_one (ps_ret pe_bl)) pss_nil)
  (pss_cons (ps_if (pt_cmpR (op_neD hr.units) (pe_meth (pv 1) T.cl_Desk T.m_Desk_ask (ok_Desk_ask T) (hr.mono (by decide)) T.b_Desk_ask .nil pass0 (pa_cons (pe_op op_add_str (pe_op op_add_str (pe_op op_add_str pe_str (pv 2)) pe_str) (pe_call (ok__law_line_text T) (hr.mono (by decide)) (by rfl) T.g__law_line_text T.F__law_line_text.kp T.b__law_line_text .nil pass0 (pa_cons (pv 6) pa_nil))) pa_nil)) (pe_lst pa_nil) (nomark _)) (pss_one (ps_ret pe_bl)) pss_nil)
  (pss_cons (ps_if (pt_not (pt_val (pe_call (ok__law_told_right T) (hr.mono (by decide)) (by rfl) T.g__law_told_right T.F__law_told_right.kp T.b__law_told_right .nil pass0 (pa_cons (pv 1) (pa_cons (pe_call (ok__law_lines T) (hr.mono (by decide)) (by rfl) T.g__law_lines T.F__law_lines.kp T.b__law_lines .nil pass0 (pa_cons (pv 0) (pa_cons (pv 2) (pa_cons (pv 6) (pa_cons (pe_op op_add pe_int (pe_op op_mulG pe_int (pv 4))) pa_nil))))) pa_nil))))) (pss_one (ps_ret pe_bl)) pss_nil)
  (pss_cons (ps_if (pt_cmpR (op_neD hr.units) (pe_meth (pv 1) T.cl_Desk T.m_Desk_ask (ok_Desk_ask T) (hr.mono (by decide)) T.b_Desk_ask .nil pass0 (pa_cons (pe_op op_add_str (pe_op op_add_str (pe_op op_add_str pe_str (pv 2)) pe_str) (pe_call (ok__law_line_text T) (hr.mono (by decide)) (by rfl) T.g__law_line_text T.F__law_line_text.kp T.b__law_line_text .nil pass0 (pa_cons (pv 5) pa_nil))) pa_nil)) (pe_lst pa_nil) (nomark _)) (pss_one (ps_ret pe_bl)) pss_nil)
  (pss_cons (ps_set (i := 7) sc_law.nd rfl (Or.inl rfl) (pe_call (ok__law_number T) (hr.mono (by decide)) (by rfl) T.g__law_number T.F__law_number.kp T.b__law_number .nil pass0 (pa_cons (pv 0) (pa_cons (pe_op op_add pe_int (pe_op op_mulG pe_int (pv 4))) (pa_cons pe_int pa_nil)))))
  (pss_cons (ps_set (i := 8) sc_law.nd rfl (Or.inl rfl) (pe_lst (pa_cons (pe_callTy call_str_int (by rfl) T.n_str (by decide +kernel) (pa_cons (pe_call (ok_points_between T) (hr.mono (by decide)) (by rfl) T.g_points_between T.F_points_between.kp T.b_points_between .nil pass0 (pa_cons (pe_tup (pa_cons (pv 5) pa_nil)) (pa_cons (pe_tup (pa_cons (pv 6) pa_nil)) (pa_cons (pe_un un_neg pe_int) (pa_cons (pv 7) pa_nil))))) pa_nil)) pa_nil)))
  (pss_one (ps_if (pt_cmpR (op_neD hr.units) (pe_meth (pv 1) T.cl_Desk T.m_Desk_ask (ok_Desk_ask T) (hr.mono (by decide)) T.b_Desk_ask .nil pass0 (pa_cons (pe_op op_add_str (pe_op op_add_str (pe_op op_add_str (pe_op op_add_str (pe_op op_add_str pe_str (pe_callTy call_str_int (by rfl) T.n_str (by decide +kernel) (pa_cons (pv 7) pa_nil))) pe_str) (pv 2)) pe_str) (pv 3)) pa_nil)) (pv 8) (nomark _)) (pss_one (ps_ret pe_bl)) pss_nil)))))))))))))
  (pss_one (ps_ret pe_bl)))))), ?_⟩
    try rw [st_law]

    have big : ∀ {x : Nat}, x ≤ 100000 → x ≤ sizeLine := fun h => Nat.le_trans h (by decide)
    have b1 : (" " : Str).length = 1 := by decide +kernel
    have l1 : ("line " : Str).length = 5 := by decide +kernel
    have l4 : ("points -7 " : Str).length = 10 := by decide +kernel
    have l5 : (" ; " : Str).length = 3 := by decide +kernel
    (repeat (with_reducible first | refine r_seq ?_ | refine r_asg ?_ | refine r_nil ?_ | refine r_make ?_))
    intro dk dx nk nx nkx
    refine ⟨dk, dx, rfl, upd_same, fun dl H1 off D1 ndl => ⟨rfl, ?_⟩⟩
    have s1 : Same H H1 := fun b o h => by
      have h1 : b ≠ dk := ne_of_none h nk
      have h2 : b ≠ dx := ne_of_none h nx
      exact off b o (by rw [upd_ne h1, upd_ne h2]; exact h) h1
    have tab1 := TabS.same tab s1
    have hS1 := Same.seq s1 hS
    clear off
    (repeat (with_reducible first | refine r_v0 ?_ | refine r_gn1 ?_ | refine r_seq ?_ | refine r_asg ?_ | refine r_C ?_ | refine r_cons ?_ | refine r_nil ?_ | refine r_call ?_))
    refine ⟨a, ns, _, rfl, hS1, hl, by omega, by omega, fun name H2 s2 en low => ?_⟩
    (repeat (with_reducible first | refine r_v0 ?_ | refine r_gn2 ?_ | refine r_seq ?_ | refine r_asg ?_ | refine r_C ?_ | refine r_cons ?_ | refine r_nil ?_ | refine r_call ?_))
    refine ⟨a, ns, _, rfl, Same.seq s2 hS1, hl, by omega, by omega, fun other H3 s3 eo lowo => ?_⟩
    have hne : ¬ name = other := fun z => by
      rw [z] at en
      have := name_inj (i := 0) (j := 1) (by decide) (by decide) (by decide) (by decide) (en.symm.trans eo)
      omega
    have hno : ¬ other = name := fun z => hne z.symm
    have S3 := s2.trans s3
    have D3 := D1.ex (Ex.of S3)
    have tab3 := TabS.same tab1 S3
    have hS3 := Same.seq S3 hS1
    have wl := low_len low
    have wlo := low_len lowo
    clear D1 tab1 hS1 s1 s2 s3 S3 hS tab nk nx nkx ndl en eo
    (repeat (with_reducible first | refine r_gn3 ?_ | refine r_seq ?_ | refine r_C ?_ | refine r_cons ?_ | refine r_nil ?_ | refine r_for ?_ | refine r_rng1 ?_))
    refine ⟨_, rfl, by omega, by omega, ?_⟩
    refine loop_range (fun i σ G => ∃ (v4 v5 v6 v7 v8 : Option V) (tb : Str → Option Ln3), σ = [some (.ref a), some (.ref dk), some (.str name), some (.str other), v4, v5, v6, v7, v8] ∧ SqL K G a (ns.map V.int) ∧ DeskAt T.c_Desk G dk dl (4 * i) tb ∧ LamX.TabS G T.p_in_order_ lq_in_order) ⟨_, _, _, _, _, _, rfl, hS3, D3, tab3⟩ ?_ ?_
    · rintro i σ G hi ⟨v4, v5, v6, v7, v8, tb, rfl, hG, DG, tabG⟩
      have hi : i < 2 := hi
      rw [Int.zero_add]
      clear hS3 D3 tab3
      (repeat (first | (with_reducible first | refine r_v0 ?_ | refine r_v4 ?_ | refine r_gn4 ?_ | refine r_seq ?_ | refine r_asg ?_ | refine r_C ?_ | refine r_op ?_ | refine r_I0 ?_ | refine r_cons ?_ | refine r_nil ?_ | refine r_call ?_) | ((with_reducible refine r_I ?zzc ?_); (case zzc => first | with_reducible assumption | ((with_reducible apply mul_okA); (repeat' (first | with_reducible assumption | with_reducible apply Sz.mul | with_reducible apply Sz.addM | with_reducible apply Sz.subM | with_reducible apply Sz.neg | exact Sz.lit | decide)); done) | (show (0 : Int) < _; first | with_reducible assumption | decide | omega) | exact mul_okL | exact mul_okR | exact mul_okM | (exact div_ok (by with_reducible assumption) (by with_reducible assumption)) | (exact ⟨by with_reducible assumption, by with_reducible assumption⟩) | (exact ⟨by decide, by decide, by decide⟩) | (exact ⟨by decide, by decide⟩)))))
      refine ⟨a, ns, _, _, rfl, hG, hl, by omega, by omega, by decide, by decide, fun pl a1 b1' m1 G1 s1 f1 m10 na nb nm => ?_⟩
      obtain ⟨l, rfl, rfl, rfl⟩ : ∃ l : Ln3, l.1 = a1 ∧ l.2.1 = b1' ∧ l.2.2 = m1 := ⟨(a1, b1', m1), rfl, rfl, rfl⟩
      (repeat (first | (with_reducible first | refine r_v0 ?_ | refine r_v4 ?_ | refine r_gn5 ?_ | refine r_seq ?_ | refine r_asg ?_ | refine r_C ?_ | refine r_op ?_ | refine r_I0 ?_ | refine r_cons ?_ | refine r_nil ?_ | refine r_call ?_) | ((with_reducible refine r_I ?zzc ?_); (case zzc => first | with_reducible assumption | ((with_reducible apply mul_okA); (repeat' (first | with_reducible assumption | with_reducible apply Sz.mul | with_reducible apply Sz.addM | with_reducible apply Sz.subM | with_reducible apply Sz.neg | exact Sz.lit | decide)); done) | (show (0 : Int) < _; first | with_reducible assumption | decide | omega) | exact mul_okL | exact mul_okR | exact mul_okM | (exact div_ok (by with_reducible assumption) (by with_reducible assumption)) | (exact ⟨by with_reducible assumption, by with_reducible assumption⟩) | (exact ⟨by decide, by decide, by decide⟩) | (exact ⟨by decide, by decide⟩)))))
      refine ⟨a, ns, _, _, rfl, Same.seq s1 hG, hl, by omega, by omega, by decide, by decide, fun pk a2 b2' m2 G2 s2 f2 k10 ka kb km => ?_⟩
      obtain ⟨k, rfl, rfl, rfl⟩ : ∃ l : Ln3, l.1 = a2 ∧ l.2.1 = b2' ∧ l.2.2 = m2 := ⟨(a2, b2', m2), rfl, rfl, rfl⟩
      have hG2 := Same.seq (s1.trans s2) hG
      have f1 := s2 _ _ f1
      have DA := DG.ex (Ex.of (s1.trans s2))
      have tabA := TabS.same tabG (s1.trans s2)
      have lenl := len_line na nb nm
      have lenk := len_line ka kb km
      clear DG tabG hG s1 s2
      (repeat (with_reducible first | refine r_v1 ?_ | refine r_gn6 ?_ | refine r_seq ?_ | refine r_op ?_ | refine r_if ?_ | refine r_test ?_ | refine r_meth ?_))
      refine desk_meth DA (by decide +kernel) ?_
      (repeat (with_reducible first | refine r_v2 ?_ | refine r_C ?_ | refine r_op ?_ | refine r_cons ?_ | refine r_str2 ?_))
      refine ⟨big (by omega), ?_⟩
      (repeat (with_reducible first | refine r_C ?_ | refine r_str2 ?_))
      refine ⟨big (by rw [len_append]; omega), ?_⟩
      (repeat (with_reducible first | refine r_v5 ?_ | refine r_cons ?_ | refine r_nil ?_ | refine r_call ?_))
      refine ⟨pl, l, rfl, f1, na.sz.mono (by decide), nb.sz.mono (by decide), nm.sz.mono (by decide), fun G4 s4 => ?_⟩
      (repeat (with_reducible refine r_str2 ?_))
      refine ⟨big (by rw [len_append, len_append]; omega), ?_⟩
      (repeat (with_reducible refine r_nil ?_))
      refine ask_put T (DA.ex (Ex.of s4)) (TabS.same tabA s4) (by omega) low m10 na nb nm fun t4 I4 k4 DB tabB g4 => ?_
      (repeat (with_reducible first | refine r_nil ?_ | refine r_lst ?_))
      refine r_lit fun r4 J4 m4 u4 h4 => ?_
      refine r_neL0 (u4 _ _ g4) h4 ?_
      have kk : Kx _ J4 := (Kx.of s4).trans (k4.trans (Kx.of u4))
      have hG2 := kk.seqL hG2
      have f1 := kk.tup f1
      have f2 := kk.tup f2
      have DA := DB.ex (Ex.of u4)
      have tabA := TabS.same tabB u4
      clear kk DB tabB g4 h4 s4 k4 u4 m4
      (repeat (with_reducible first | refine r_v1 ?_ | refine r_seq ?_ | refine r_next ?_ | refine r_op ?_ | refine r_if ?_ | refine r_test ?_ | refine r_bl ?_ | refine iteF ?_ | refine r_meth ?_))
      refine desk_meth DA (by decide +kernel) ?_
      (repeat (with_reducible first | refine r_v3 ?_ | refine r_C ?_ | refine r_op ?_ | refine r_cons ?_ | refine r_str2 ?_))
      refine ⟨big (by omega), ?_⟩
      (repeat (with_reducible first | refine r_C ?_ | refine r_str2 ?_))
      refine ⟨big (by rw [len_append]; omega), ?_⟩
      (repeat (with_reducible first | refine r_v6 ?_ | refine r_cons ?_ | refine r_nil ?_ | refine r_call ?_))
      refine ⟨pk, k, rfl, f2, ka.sz.mono (by decide), kb.sz.mono (by decide), km.sz.mono (by decide), fun G5 s5 => ?_⟩
      (repeat (with_reducible refine r_str2 ?_))
      refine ⟨big (by rw [len_append, len_append]; omega), ?_⟩
      (repeat (with_reducible refine r_nil ?_))
      refine ask_put T (DA.ex (Ex.of s5)) (TabS.same tabA s5) (by omega) lowo k10 ka kb km fun t5 I5 k5 DB tabB g5 => ?_
      (repeat (with_reducible first | refine r_nil ?_ | refine r_lst ?_))
      refine r_lit fun r5 J5 m5 u5 h5 => ?_
      refine r_neL0 (u5 _ _ g5) h5 ?_
      have kk : Kx _ J5 := (Kx.of s5).trans (k5.trans (Kx.of u5))
      have hG2 := kk.seqL hG2
      have f1 := kk.tup f1
      have f2 := kk.tup f2
      have DA := DB.ex (Ex.of u5)
      have tabA := TabS.same tabB u5
      clear kk DB tabB g5 h5 s5 k5 u5 m5
      (repeat (first | (with_reducible first | refine r_v0 ?_ | refine r_v1 ?_ | refine r_v2 ?_ | refine r_v4 ?_ | refine r_v5 ?_ | refine r_seq ?_ | refine r_next ?_ | refine r_C ?_ | refine r_op ?_ | refine r_I0 ?_ | refine r_if ?_ | refine r_B ?_ | refine r_bl ?_ | refine r_not ?_ | refine r_cons ?_ | refine r_nil ?_ | refine r_call ?_ | refine iteF ?_) | ((with_reducible refine r_I ?zzc ?_); (case zzc => first | with_reducible assumption | ((with_reducible apply mul_okA); (repeat' (first | with_reducible assumption | with_reducible apply Sz.mul | with_reducible apply Sz.addM | with_reducible apply Sz.subM | with_reducible apply Sz.neg | exact Sz.lit | decide)); done) | (show (0 : Int) < _; first | with_reducible assumption | decide | omega) | exact mul_okL | exact mul_okR | exact mul_okM | (exact div_ok (by with_reducible assumption) (by with_reducible assumption)) | (exact ⟨by with_reducible assumption, by with_reducible assumption⟩) | (exact ⟨by decide, by decide, by decide⟩) | (exact ⟨by decide, by decide⟩)))))
      refine ⟨a, pl, ns, name, l, _, rfl, hG2, hl, low, f1, m10, na, nb, nm, by omega, by omega, tabA, fun t6 G6 x6 tab6 al => ?_⟩
      have DB := DA.ex x6
      (repeat (with_reducible refine r_nil ?_))
      refine ⟨dk, dl, t6, _, _, name, l, rfl, DB, tab6, by unfold putT; simp [hne], m10, na.sz.mono (by decide), nb.sz.mono (by decide), nm.sz.mono (by decide), al, fun J6 y6 tabC => ?_⟩
      have kk : Ex _ J6 := Ex.trans x6 y6
      have hG2 := (Kx.ex kk).seqL hG2
      have f1 := kk.tup f1
      have f2 := kk.tup f2
      have DA := DB.ex y6
      have tabA := tabC
      clear kk DB tabC tab6 al x6 y6
      (repeat (with_reducible first | refine r_v1 ?_ | refine r_seq ?_ | refine r_next ?_ | refine r_op ?_ | refine r_if ?_ | refine r_test ?_ | refine r_bl ?_ | refine iteNT ?_ | refine r_meth ?_))
      refine desk_meth DA (by decide +kernel) ?_
      (repeat (with_reducible first | refine r_v2 ?_ | refine r_C ?_ | refine r_op ?_ | refine r_cons ?_ | refine r_str2 ?_))
      refine ⟨big (by omega), ?_⟩
      (repeat (with_reducible first | refine r_C ?_ | refine r_str2 ?_))
      refine ⟨big (by rw [len_append]; omega), ?_⟩
      (repeat (with_reducible first | refine r_v6 ?_ | refine r_cons ?_ | refine r_nil ?_ | refine r_call ?_))
      refine ⟨pk, k, rfl, f2, ka.sz.mono (by decide), kb.sz.mono (by decide), km.sz.mono (by decide), fun G7 s7 => ?_⟩
      (repeat (with_reducible refine r_str2 ?_))
      refine ⟨big (by rw [len_append, len_append]; omega), ?_⟩
      (repeat (with_reducible refine r_nil ?_))
      refine ask_put T (DA.ex (Ex.of s7)) (TabS.same tabA s7) (by omega) low k10 ka kb km fun t7 I7 k7 DB tabB g7 => ?_
      (repeat (with_reducible first | refine r_nil ?_ | refine r_lst ?_))
      refine r_lit fun r7 J7 m7 u7 h7 => ?_
      refine r_neL0 (u7 _ _ g7) h7 ?_
      have kk : Kx _ J7 := (Kx.of s7).trans (k7.trans (Kx.of u7))
      have hG2 := kk.seqL hG2
      have f1 := kk.tup f1
      have f2 := kk.tup f2
      have DA := DB.ex (Ex.of u7)
      have tabA := TabS.same tabB u7
      clear kk DB tabB g7 h7 s7 k7 u7 m7
      (repeat (first | (with_reducible first | refine r_v0 ?_ | refine r_v1 ?_ | refine r_v2 ?_ | refine r_v4 ?_ | refine r_v6 ?_ | refine r_seq ?_ | refine r_next ?_ | refine r_C ?_ | refine r_op ?_ | refine r_I0 ?_ | refine r_if ?_ | refine r_B ?_ | refine r_bl ?_ | refine r_not ?_ | refine r_cons ?_ | refine r_nil ?_ | refine r_call ?_ | refine iteF ?_) | ((with_reducible refine r_I ?zzc ?_); (case zzc => first | with_reducible assumption | ((with_reducible apply mul_okA); (repeat' (first | with_reducible assumption | with_reducible apply Sz.mul | with_reducible apply Sz.addM | with_reducible apply Sz.subM | with_reducible apply Sz.neg | exact Sz.lit | decide)); done) | (show (0 : Int) < _; first | with_reducible assumption | decide | omega) | exact mul_okL | exact mul_okR | exact mul_okM | (exact div_ok (by with_reducible assumption) (by with_reducible assumption)) | (exact ⟨by with_reducible assumption, by with_reducible assumption⟩) | (exact ⟨by decide, by decide, by decide⟩) | (exact ⟨by decide, by decide⟩)))))
      refine ⟨a, pk, ns, name, k, _, rfl, hG2, hl, low, f2, k10, ka, kb, km, by omega, by omega, tabA, fun t8 G8 x8 tab8 al => ?_⟩
      have DB := DA.ex x8
      (repeat (with_reducible refine r_nil ?_))
      refine ⟨dk, dl, t8, _, _, name, k, rfl, DB, tab8, by unfold putT; simp [hne], k10, ka.sz.mono (by decide), kb.sz.mono (by decide), km.sz.mono (by decide), al, fun J8 y8 tabC => ?_⟩
      have kk : Ex _ J8 := Ex.trans x8 y8
      have hG2 := (Kx.ex kk).seqL hG2
      have f1 := kk.tup f1
      have f2 := kk.tup f2
      have DA := DB.ex y8
      have tabA := tabC
      clear kk DB tabC tab8 al x8 y8
      (repeat (with_reducible first | refine r_v1 ?_ | refine r_seq ?_ | refine r_next ?_ | refine r_op ?_ | refine r_if ?_ | refine r_test ?_ | refine r_bl ?_ | refine iteNT ?_ | refine r_meth ?_))
      refine desk_meth DA (by decide +kernel) ?_
      (repeat (with_reducible first | refine r_v2 ?_ | refine r_C ?_ | refine r_op ?_ | refine r_cons ?_ | refine r_str2 ?_))
      refine ⟨big (by omega), ?_⟩
      (repeat (with_reducible first | refine r_C ?_ | refine r_str2 ?_))
      refine ⟨big (by rw [len_append]; omega), ?_⟩
      (repeat (with_reducible first | refine r_v5 ?_ | refine r_cons ?_ | refine r_nil ?_ | refine r_call ?_))
      refine ⟨pl, l, rfl, f1, na.sz.mono (by decide), nb.sz.mono (by decide), nm.sz.mono (by decide), fun G9 s9 => ?_⟩
      (repeat (with_reducible refine r_str2 ?_))
      refine ⟨big (by rw [len_append, len_append]; omega), ?_⟩
      (repeat (with_reducible refine r_nil ?_))
      refine ask_put T (DA.ex (Ex.of s9)) (TabS.same tabA s9) (by omega) low m10 na nb nm fun t9 I9 k9 DB tabB g9 => ?_
      (repeat (with_reducible first | refine r_nil ?_ | refine r_lst ?_))
      refine r_lit fun r9 J9 m9 u9 h9 => ?_
      refine r_neL0 (u9 _ _ g9) h9 ?_
      have kk : Kx _ J9 := (Kx.of s9).trans (k9.trans (Kx.of u9))
      have hG2 := kk.seqL hG2
      have f1 := kk.tup f1
      have f2 := kk.tup f2
      have DA := DB.ex (Ex.of u9)
      have tabA := TabS.same tabB u9
      clear kk DB tabB g9 h9 s9 k9 u9 m9
      (repeat (first | (with_reducible first | refine r_v0 ?_ | refine r_v4 ?_ | refine r_seq ?_ | refine r_next ?_ | refine r_asg ?_ | refine r_C ?_ | refine r_op ?_ | refine r_I0 ?_ | refine r_bl ?_ | refine r_cons ?_ | refine r_nil ?_ | refine r_call ?_ | refine iteF ?_) | ((with_reducible refine r_I ?zzc ?_); (case zzc => first | with_reducible assumption | ((with_reducible apply mul_okA); (repeat' (first | with_reducible assumption | with_reducible apply Sz.mul | with_reducible apply Sz.addM | with_reducible apply Sz.subM | with_reducible apply Sz.neg | exact Sz.lit | decide)); done) | (show (0 : Int) < _; first | with_reducible assumption | decide | omega) | exact mul_okL | exact mul_okR | exact mul_okM | (exact div_ok (by with_reducible assumption) (by with_reducible assumption)) | (exact ⟨by with_reducible assumption, by with_reducible assumption⟩) | (exact ⟨by decide, by decide, by decide⟩) | (exact ⟨by decide, by decide⟩)))))
      refine ⟨a, ns, _, _, rfl, hG2, hl, by omega, by omega, by decide, by decide, fun high e10 G10 s10 h0 he10 h1 => ?_⟩
      have nh : high.natAbs < 10 ^ 60 := N60.of h0 (by omega) h1
      have sh : Sz 300 high := (N60.sz nh).mono (by decide)
      clear h1 he10 e10
      have nhl := num_len (i := high) (k := 60) (by decide) nh
      have nhl : (Str.ofString (toString high)).length ≤ 61 := nhl
      (repeat (with_reducible first | refine r_v5 ?_ | refine r_gn7 ?_ | refine r_seq ?_ | refine r_asg ?_ | refine r_cons ?_ | refine r_nil ?_ | refine r_call ?_ | refine r_CB ?_ | refine r_tup ?_ | refine r_lst ?_))
      refine r_litT fun p11 G11 n11 s11 e11 => ?_
      (repeat (with_reducible first | refine r_v6 ?_ | refine r_cons ?_ | refine r_nil ?_ | refine r_tup ?_))
      refine r_litT fun p12 G12 n12 s12 e12 => ?_
      have S12 := (s10.trans s11).trans s12
      have ga : Gd [l] := fun o ho => by
        rw [List.mem_singleton.mp ho]
        exact ⟨m10, na.sz.mono (by decide), nb.sz.mono (by decide), nm.sz.mono (by decide)⟩
      have gb : Gd [k] := fun o ho => by
        rw [List.mem_singleton.mp ho]
        exact ⟨k10, ka.sz.mono (by decide), kb.sz.mono (by decide), km.sz.mono (by decide)⟩
      have lo : Sz 300 (-7) := by decide
      have szz := sz_ptsZ ga gb (Nat.one_pos) (Nat.one_pos) (show -7 ≤ high by omega) lo sh
      (repeat (with_reducible first | refine r_v7 ?_ | refine r_C ?_ | refine r_un ?_ | refine r_U ?_ | refine r_cons ?_ | refine r_nil ?_))
      refine ⟨p11, p12, -7, high, [l], [k], rfl, ⟨_, .inl (.inl (s12 _ _ e11)), ⟨⟨pl, rfl, S12 _ _ f1⟩, trivial⟩⟩, ⟨_, .inl (.inl e12), ⟨⟨pk, rfl, S12 _ _ f2⟩, trivial⟩⟩, ga, gb, Nat.one_pos, Nat.one_pos, (show 1 ≤ 100 by decide), by omega, lo.mono (by decide), sh.mono (by decide), fun G13 s13 => ?_⟩
      (repeat (with_reducible refine r_nil ?_))
      refine ⟨_, rfl, log_okS szz, ?_⟩
      (repeat (with_reducible refine r_nil ?_))
      refine r_lit fun p14 G14 n14 s14 e14 => ?_
      have S14 := (S12.trans s13).trans s14
      have DB := DA.ex (Ex.of S14)
      have tabB := TabS.same tabA S14
      have hG3 := Same.seq S14 hG2
      clear DA tabA hG2 f1 f2 e11 e12 n11 n12 s10 s11 s12 s13 s14
      (repeat (with_reducible first | refine r_v1 ?_ | refine r_gn8 ?_ | refine r_op ?_ | refine r_if ?_ | refine r_test ?_ | refine r_meth ?_))
      refine desk_meth DB (by decide +kernel) ?_
      (repeat (with_reducible first | refine r_v7 ?_ | refine r_C ?_ | refine r_op ?_ | refine r_cons ?_ | refine r_nil ?_ | refine r_CB ?_))
      refine ⟨_, rfl, log_okS (sh.mono (by decide) : Sz 1800 high), ?_⟩
      (repeat (with_reducible refine r_str2 ?_))
      refine ⟨big (by omega), ?_⟩
      (repeat (with_reducible first | refine r_C ?_ | refine r_str2 ?_))
      refine ⟨big (by rw [len_append]; omega), ?_⟩
      (repeat (with_reducible first | refine r_v2 ?_ | refine r_str2 ?_))
      refine ⟨big (by rw [len_append, len_append]; omega), ?_⟩
      (repeat (with_reducible first | refine r_C ?_ | refine r_str2 ?_))
      refine ⟨big (by rw [len_append, len_append, len_append]; omega), ?_⟩
      (repeat (with_reducible first | refine r_v3 ?_ | refine r_str2 ?_))
      refine ⟨big (by rw [len_append, len_append, len_append, len_append]; omega), ?_⟩
      (repeat (with_reducible refine r_nil ?_))
      refine ⟨dk, dl, _, _, _, rfl, by rw [len_append, len_append, len_append, len_append, len_append]; omega, DB, tabB, .inr (.inr ⟨[name], [other], [l], [k], -7, high, split_pts (low_free low) (low_free lowo), Nat.le_refl _, (show 1 ≤ 4 by decide), Nat.le_refl _, (show 1 ≤ 4 by decide), fun z => low_semi low (List.mem_singleton.mp z).symm, fun z => low_semi lowo (List.mem_singleton.mp z).symm, ⟨by unfold putT; simp, trivial⟩, ⟨by unfold putT; simp [hno], trivial⟩, ga, gb, by decide, nh, by omega, fun t15 G15 s15 e15 => ?_⟩)⟩
      have e15 : G15 t15 = some (.lst [.str (num (ptsZ [l] [k] (-7) high))]) := by
        rw [e15]
        rw [show rowT [ptsZ [l] [k] (-7) high] = num (ptsZ [l] [k] (-7) high) from rowT_one _]
      (repeat (with_reducible refine r_v8 ?_))
      refine r_neL1 e15 (s15 _ _ e14) (asc_num _) ?_
      (repeat (with_reducible first | refine r_next ?_ | refine r_bl ?_ | refine iteF ?_))
      exact ⟨_, _, _, _, _, _, rfl, Same.seq s15 hG3, DB.ex (Ex.of s15), TabS.same tabB s15⟩
    · rintro σ G ⟨v4, v5, v6, v7, v8, tb, rfl, hG, DG, tabG⟩
      (repeat (with_reducible first | refine r_C ?_ | refine r_ret ?_))
      exact q G
theorem all_mk {l : PySem.W.OpenLaw} {w : World} {K : PySem.W.Frag} {h : Heap} {mg : Str → Option Value} {fa : Addr} (X : K.In h) (G : h.Ns mainGlobals mg) (hfa : mg "law" = some (.ref fa))
    {C_Desk : Addr} (aC_Desk : PySem.W.nsIn K mainGlobals "Desk" = some (some (.ref C_Desk))) (pg_Desk : PySem.W.plainGet K C_Desk Str.empty = true) (hd_Desk : PySem.W.hasDictIn K C_Desk = true) (po_Desk : PySem.W.plainOver K C_Desk = true) (sa_Desk : PySem.W.findIn K (.ref C_Desk) "__setattr__" = some (some (.builtin "object.__setattr__"))) (mk_Desk : PySem.W.makesIn K C_Desk = true) (kc_Desk : PySem.W.keepIn K (.ref C_Desk) = true)
    (na_lines : PySem.W.findIn K (.ref C_Desk) "lines" = some none)
    {f0 : Addr} {od0 an0 : Option Addr} {sl0 : Array (Option Value)} {oc0 kV0 dc0 pm0 cd0 ct0 : Value}
    (a0 : PySem.W.nsIn K mainGlobals "check_line" = some (some (.ref f0))) (l0 : K.lookup f0 = some ⟨oc0, od0, .func (PySem.W.fnOf "check_line" "check_line" (defArgs s_check_line) (defBody s_check_line) (defScope s_check_line) .none kV0 dc0 pm0 an0 cd0 ct0), sl0⟩) (c0 : PySem.W.codeIn K cd0 "check_line" = true) (k0 : PySem.W.keepIn K (.ref f0) = true)
    {f1 : Addr} {od1 an1 : Option Addr} {sl1 : Array (Option Value)} {oc1 kV1 dc1 pm1 cd1 ct1 : Value}
    (a1 : PySem.W.nsIn K mainGlobals "height_at" = some (some (.ref f1))) (l1 : K.lookup f1 = some ⟨oc1, od1, .func (PySem.W.fnOf "height_at" "height_at" (defArgs s_height_at) (defBody s_height_at) (defScope s_height_at) .none kV1 dc1 pm1 an1 cd1 ct1), sl1⟩) (c1 : PySem.W.codeIn K cd1 "height_at" = true) (k1 : PySem.W.keepIn K (.ref f1) = true)
    {f2 : Addr} {od2 an2 : Option Addr} {sl2 : Array (Option Value)} {oc2 kV2 dc2 pm2 cd2 ct2 : Value}
    (a2 : PySem.W.nsIn K mainGlobals "part_at" = some (some (.ref f2))) (l2 : K.lookup f2 = some ⟨oc2, od2, .func (PySem.W.fnOf "part_at" "part_at" (defArgs s_part_at) (defBody s_part_at) (defScope s_part_at) .none kV2 dc2 pm2 an2 cd2 ct2), sl2⟩) (c2 : PySem.W.codeIn K cd2 "part_at" = true) (k2 : PySem.W.keepIn K (.ref f2) = true)
    {f3 : Addr} {od3 an3 : Option Addr} {sl3 : Array (Option Value)} {oc3 kV3 dc3 pm3 cd3 ct3 : Value}
    (a3 : PySem.W.nsIn K mainGlobals "rest_at" = some (some (.ref f3))) (l3 : K.lookup f3 = some ⟨oc3, od3, .func (PySem.W.fnOf "rest_at" "rest_at" (defArgs s_rest_at) (defBody s_rest_at) (defScope s_rest_at) .none kV3 dc3 pm3 an3 cd3 ct3), sl3⟩) (c3 : PySem.W.codeIn K cd3 "rest_at" = true) (k3 : PySem.W.keepIn K (.ref f3) = true)
    {f4 : Addr} {od4 an4 : Option Addr} {sl4 : Array (Option Value)} {oc4 kV4 dc4 pm4 cd4 ct4 : Value}
    (a4 : PySem.W.nsIn K mainGlobals "laid_off" = some (some (.ref f4))) (l4 : K.lookup f4 = some ⟨oc4, od4, .func (PySem.W.fnOf "laid_off" "laid_off" (defArgs s_laid_off) (defBody s_laid_off) (defScope s_laid_off) .none kV4 dc4 pm4 an4 cd4 ct4), sl4⟩) (c4 : PySem.W.codeIn K cd4 "laid_off" = true) (k4 : PySem.W.keepIn K (.ref f4) = true)
    {f5 : Addr} {od5 an5 : Option Addr} {sl5 : Array (Option Value)} {oc5 kV5 dc5 pm5 cd5 ct5 : Value}
    (a5 : PySem.W.nsIn K mainGlobals "turned" = some (some (.ref f5))) (l5 : K.lookup f5 = some ⟨oc5, od5, .func (PySem.W.fnOf "turned" "turned" (defArgs s_turned) (defBody s_turned) (defScope s_turned) .none kV5 dc5 pm5 an5 cd5 ct5), sl5⟩) (c5 : PySem.W.codeIn K cd5 "turned" = true) (k5 : PySem.W.keepIn K (.ref f5) = true)
    {f6 : Addr} {od6 an6 : Option Addr} {sl6 : Array (Option Value)} {oc6 kV6 dc6 pm6 cd6 ct6 : Value}
    (a6 : PySem.W.nsIn K mainGlobals "is_number" = some (some (.ref f6))) (l6 : K.lookup f6 = some ⟨oc6, od6, .func (PySem.W.fnOf "is_number" "is_number" (defArgs s_is_number) (defBody s_is_number) (defScope s_is_number) .none kV6 dc6 pm6 an6 cd6 ct6), sl6⟩) (c6 : PySem.W.codeIn K cd6 "is_number" = true) (k6 : PySem.W.keepIn K (.ref f6) = true)
    {f7 : Addr} {od7 an7 : Option Addr} {sl7 : Array (Option Value)} {oc7 kV7 dc7 pm7 cd7 ct7 : Value}
    (a7 : PySem.W.nsIn K mainGlobals "check_stretch" = some (some (.ref f7))) (l7 : K.lookup f7 = some ⟨oc7, od7, .func (PySem.W.fnOf "check_stretch" "check_stretch" (defArgs s_check_stretch) (defBody s_check_stretch) (defScope s_check_stretch) .none kV7 dc7 pm7 an7 cd7 ct7), sl7⟩) (c7 : PySem.W.codeIn K cd7 "check_stretch" = true) (k7 : PySem.W.keepIn K (.ref f7) = true)
    {f8 : Addr} {od8 an8 : Option Addr} {sl8 : Array (Option Value)} {oc8 kV8 dc8 pm8 cd8 ct8 : Value}
    (a8 : PySem.W.nsIn K mainGlobals "sum_places" = some (some (.ref f8))) (l8 : K.lookup f8 = some ⟨oc8, od8, .func (PySem.W.fnOf "sum_places" "sum_places" (defArgs s_sum_places) (defBody s_sum_places) (defScope s_sum_places) .none kV8 dc8 pm8 an8 cd8 ct8), sl8⟩) (c8 : PySem.W.codeIn K cd8 "sum_places" = true) (k8 : PySem.W.keepIn K (.ref f8) = true)
    {f9 : Addr} {od9 an9 : Option Addr} {sl9 : Array (Option Value)} {oc9 kV9 dc9 pm9 cd9 ct9 : Value}
    (a9 : PySem.W.nsIn K mainGlobals "sum_parts" = some (some (.ref f9))) (l9 : K.lookup f9 = some ⟨oc9, od9, .func (PySem.W.fnOf "sum_parts" "sum_parts" (defArgs s_sum_parts) (defBody s_sum_parts) (defScope s_sum_parts) .none kV9 dc9 pm9 an9 cd9 ct9), sl9⟩) (c9 : PySem.W.codeIn K cd9 "sum_parts" = true) (k9 : PySem.W.keepIn K (.ref f9) = true)
    {f10 : Addr} {od10 an10 : Option Addr} {sl10 : Array (Option Value)} {oc10 kV10 dc10 pm10 cd10 ct10 : Value}
    (a10 : PySem.W.nsIn K mainGlobals "sum_rests" = some (some (.ref f10))) (l10 : K.lookup f10 = some ⟨oc10, od10, .func (PySem.W.fnOf "sum_rests" "sum_rests" (defArgs s_sum_rests) (defBody s_sum_rests) (defScope s_sum_rests) .none kV10 dc10 pm10 an10 cd10 ct10), sl10⟩) (c10 : PySem.W.codeIn K cd10 "sum_rests" = true) (k10 : PySem.W.keepIn K (.ref f10) = true)
    {f11 : Addr} {od11 an11 : Option Addr} {sl11 : Array (Option Value)} {oc11 kV11 dc11 pm11 cd11 ct11 : Value}
    (a11 : PySem.W.nsIn K mainGlobals "sum_between" = some (some (.ref f11))) (l11 : K.lookup f11 = some ⟨oc11, od11, .func (PySem.W.fnOf "sum_between" "sum_between" (defArgs s_sum_between) (defBody s_sum_between) (defScope s_sum_between) .none kV11 dc11 pm11 an11 cd11 ct11), sl11⟩) (c11 : PySem.W.codeIn K cd11 "sum_between" = true) (k11 : PySem.W.keepIn K (.ref f11) = true)
    {f12 : Addr} {od12 an12 : Option Addr} {sl12 : Array (Option Value)} {oc12 kV12 dc12 pm12 cd12 ct12 : Value}
    (a12 : PySem.W.nsIn K mainGlobals "paper_steps" = some (some (.ref f12))) (l12 : K.lookup f12 = some ⟨oc12, od12, .func (PySem.W.fnOf "paper_steps" "paper_steps" (defArgs s_paper_steps) (defBody s_paper_steps) (defScope s_paper_steps) .none kV12 dc12 pm12 an12 cd12 ct12), sl12⟩) (c12 : PySem.W.codeIn K cd12 "paper_steps" = true) (k12 : PySem.W.keepIn K (.ref f12) = true)
    {f13 : Addr} {od13 an13 : Option Addr} {sl13 : Array (Option Value)} {oc13 kV13 dc13 pm13 cd13 ct13 : Value}
    (a13 : PySem.W.nsIn K mainGlobals "sum_paper" = some (some (.ref f13))) (l13 : K.lookup f13 = some ⟨oc13, od13, .func (PySem.W.fnOf "sum_paper" "sum_paper" (defArgs s_sum_paper) (defBody s_sum_paper) (defScope s_sum_paper) .none kV13 dc13 pm13 an13 cd13 ct13), sl13⟩) (c13 : PySem.W.codeIn K cd13 "sum_paper" = true) (k13 : PySem.W.keepIn K (.ref f13) = true)
    {f14 : Addr} {od14 an14 : Option Addr} {sl14 : Array (Option Value)} {oc14 kV14 dc14 pm14 cd14 ct14 : Value}
    (a14 : PySem.W.nsIn K mainGlobals "rounded_up" = some (some (.ref f14))) (l14 : K.lookup f14 = some ⟨oc14, od14, .func (PySem.W.fnOf "rounded_up" "rounded_up" (defArgs s_rounded_up) (defBody s_rounded_up) (defScope s_rounded_up) .none kV14 dc14 pm14 an14 cd14 ct14), sl14⟩) (c14 : PySem.W.codeIn K cd14 "rounded_up" = true) (k14 : PySem.W.keepIn K (.ref f14) = true)
    {f15 : Addr} {od15 an15 : Option Addr} {sl15 : Array (Option Value)} {oc15 kV15 dc15 pm15 cd15 ct15 : Value}
    (a15 : PySem.W.nsIn K mainGlobals "common_measure" = some (some (.ref f15))) (l15 : K.lookup f15 = some ⟨oc15, od15, .func (PySem.W.fnOf "common_measure" "common_measure" (defArgs s_common_measure) (defBody s_common_measure) (defScope s_common_measure) .none kV15 dc15 pm15 an15 cd15 ct15), sl15⟩) (c15 : PySem.W.codeIn K cd15 "common_measure" = true) (k15 : PySem.W.keepIn K (.ref f15) = true)
    {f16 : Addr} {od16 an16 : Option Addr} {sl16 : Array (Option Value)} {oc16 kV16 dc16 pm16 cd16 ct16 : Value}
    (a16 : PySem.W.nsIn K mainGlobals "first_such" = some (some (.ref f16))) (l16 : K.lookup f16 = some ⟨oc16, od16, .func (PySem.W.fnOf "first_such" "first_such" (defArgs s_first_such) (defBody s_first_such) (defScope s_first_such) .none kV16 dc16 pm16 an16 cd16 ct16), sl16⟩) (c16 : PySem.W.codeIn K cd16 "first_such" = true) (k16 : PySem.W.keepIn K (.ref f16) = true)
    {f17 : Addr} {od17 an17 : Option Addr} {sl17 : Array (Option Value)} {oc17 kV17 dc17 pm17 cd17 ct17 : Value}
    (a17 : PySem.W.nsIn K mainGlobals "check_between" = some (some (.ref f17))) (l17 : K.lookup f17 = some ⟨oc17, od17, .func (PySem.W.fnOf "check_between" "check_between" (defArgs s_check_between) (defBody s_check_between) (defScope s_check_between) .none kV17 dc17 pm17 an17 cd17 ct17), sl17⟩) (c17 : PySem.W.codeIn K cd17 "check_between" = true) (k17 : PySem.W.keepIn K (.ref f17) = true)
    {f18 : Addr} {od18 an18 : Option Addr} {sl18 : Array (Option Value)} {oc18 kV18 dc18 pm18 cd18 ct18 : Value}
    (a18 : PySem.W.nsIn K mainGlobals "kept" = some (some (.ref f18))) (l18 : K.lookup f18 = some ⟨oc18, od18, .func (PySem.W.fnOf "kept" "kept" (defArgs s_kept) (defBody s_kept) (defScope s_kept) .none kV18 dc18 pm18 an18 cd18 ct18), sl18⟩) (c18 : PySem.W.codeIn K cd18 "kept" = true) (k18 : PySem.W.keepIn K (.ref f18) = true)
    {f19 : Addr} {od19 an19 : Option Addr} {sl19 : Array (Option Value)} {oc19 kV19 dc19 pm19 cd19 ct19 : Value}
    (a19 : PySem.W.nsIn K mainGlobals "kept_no_higher" = some (some (.ref f19))) (l19 : K.lookup f19 = some ⟨oc19, od19, .func (PySem.W.fnOf "kept_no_higher" "kept_no_higher" (defArgs s_kept_no_higher) (defBody s_kept_no_higher) (defScope s_kept_no_higher) .none kV19 dc19 pm19 an19 cd19 ct19), sl19⟩) (c19 : PySem.W.codeIn K cd19 "kept_no_higher" = true) (k19 : PySem.W.keepIn K (.ref f19) = true)
    {f20 : Addr} {od20 an20 : Option Addr} {sl20 : Array (Option Value)} {oc20 kV20 dc20 pm20 cd20 ct20 : Value}
    (a20 : PySem.W.nsIn K mainGlobals "stretch_between" = some (some (.ref f20))) (l20 : K.lookup f20 = some ⟨oc20, od20, .func (PySem.W.fnOf "stretch_between" "stretch_between" (defArgs s_stretch_between) (defBody s_stretch_between) (defScope s_stretch_between) .none kV20 dc20 pm20 an20 cd20 ct20), sl20⟩) (c20 : PySem.W.codeIn K cd20 "stretch_between" = true) (k20 : PySem.W.keepIn K (.ref f20) = true)
    {f21 : Addr} {od21 an21 : Option Addr} {sl21 : Array (Option Value)} {oc21 kV21 dc21 pm21 cd21 ct21 : Value}
    (a21 : PySem.W.nsIn K mainGlobals "stretch_of_least" = some (some (.ref f21))) (l21 : K.lookup f21 = some ⟨oc21, od21, .func (PySem.W.fnOf "stretch_of_least" "stretch_of_least" (defArgs s_stretch_of_least) (defBody s_stretch_of_least) (defScope s_stretch_of_least) .none kV21 dc21 pm21 an21 cd21 ct21), sl21⟩) (c21 : PySem.W.codeIn K cd21 "stretch_of_least" = true) (k21 : PySem.W.keepIn K (.ref f21) = true)
    {f22 : Addr} {od22 an22 : Option Addr} {sl22 : Array (Option Value)} {oc22 kV22 dc22 pm22 cd22 ct22 : Value}
    (a22 : PySem.W.nsIn K mainGlobals "sum_least" = some (some (.ref f22))) (l22 : K.lookup f22 = some ⟨oc22, od22, .func (PySem.W.fnOf "sum_least" "sum_least" (defArgs s_sum_least) (defBody s_sum_least) (defScope s_sum_least) .none kV22 dc22 pm22 an22 cd22 ct22), sl22⟩) (c22 : PySem.W.codeIn K cd22 "sum_least" = true) (k22 : PySem.W.keepIn K (.ref f22) = true)
    {f23 : Addr} {od23 an23 : Option Addr} {sl23 : Array (Option Value)} {oc23 kV23 dc23 pm23 cd23 ct23 : Value}
    (a23 : PySem.W.nsIn K mainGlobals "upside_down" = some (some (.ref f23))) (l23 : K.lookup f23 = some ⟨oc23, od23, .func (PySem.W.fnOf "upside_down" "upside_down" (defArgs s_upside_down) (defBody s_upside_down) (defScope s_upside_down) .none kV23 dc23 pm23 an23 cd23 ct23), sl23⟩) (c23 : PySem.W.codeIn K cd23 "upside_down" = true) (k23 : PySem.W.keepIn K (.ref f23) = true)
    {f24 : Addr} {od24 an24 : Option Addr} {sl24 : Array (Option Value)} {oc24 kV24 dc24 pm24 cd24 ct24 : Value}
    (a24 : PySem.W.nsIn K mainGlobals "count_points" = some (some (.ref f24))) (l24 : K.lookup f24 = some ⟨oc24, od24, .func (PySem.W.fnOf "count_points" "count_points" (defArgs s_count_points) (defBody s_count_points) (defScope s_count_points) .none kV24 dc24 pm24 an24 cd24 ct24), sl24⟩) (c24 : PySem.W.codeIn K cd24 "count_points" = true) (k24 : PySem.W.keepIn K (.ref f24) = true)
    {f25 : Addr} {od25 an25 : Option Addr} {sl25 : Array (Option Value)} {oc25 kV25 dc25 pm25 cd25 ct25 : Value}
    (a25 : PySem.W.nsIn K mainGlobals "points_between" = some (some (.ref f25))) (l25 : K.lookup f25 = some ⟨oc25, od25, .func (PySem.W.fnOf "points_between" "points_between" (defArgs s_points_between) (defBody s_points_between) (defScope s_points_between) .none kV25 dc25 pm25 an25 cd25 ct25), sl25⟩) (c25 : PySem.W.codeIn K cd25 "points_between" = true) (k25 : PySem.W.keepIn K (.ref f25) = true)
    {f26 : Addr} {od26 an26 : Option Addr} {sl26 : Array (Option Value)} {oc26 kV26 dc26 pm26 cd26 ct26 : Value}
    (a26 : PySem.W.nsIn K mainGlobals "rests_beneath" = some (some (.ref f26))) (l26 : K.lookup f26 = some ⟨oc26, od26, .func (PySem.W.fnOf "rests_beneath" "rests_beneath" (defArgs s_rests_beneath) (defBody s_rests_beneath) (defScope s_rests_beneath) .none kV26 dc26 pm26 an26 cd26 ct26), sl26⟩) (c26 : PySem.W.codeIn K cd26 "rests_beneath" = true) (k26 : PySem.W.keepIn K (.ref f26) = true)
    {f27 : Addr} {od27 an27 : Option Addr} {sl27 : Array (Option Value)} {oc27 kV27 dc27 pm27 cd27 ct27 : Value}
    (a27 : PySem.W.nsIn K mainGlobals "first_multiple" = some (some (.ref f27))) (l27 : K.lookup f27 = some ⟨oc27, od27, .func (PySem.W.fnOf "first_multiple" "first_multiple" (defArgs s_first_multiple) (defBody s_first_multiple) (defScope s_first_multiple) .none kV27 dc27 pm27 an27 cd27 ct27), sl27⟩) (c27 : PySem.W.codeIn K cd27 "first_multiple" = true) (k27 : PySem.W.keepIn K (.ref f27) = true)
    {f28 : Addr} {od28 an28 : Option Addr} {sl28 : Array (Option Value)} {oc28 kV28 dc28 pm28 cd28 ct28 : Value}
    (a28 : PySem.W.nsIn K mainGlobals "first_within" = some (some (.ref f28))) (l28 : K.lookup f28 = some ⟨oc28, od28, .func (PySem.W.fnOf "first_within" "first_within" (defArgs s_first_within) (defBody s_first_within) (defScope s_first_within) .none kV28 dc28 pm28 an28 cd28 ct28), sl28⟩) (c28 : PySem.W.codeIn K cd28 "first_within" = true) (k28 : PySem.W.keepIn K (.ref f28) = true)
    {f29 : Addr} {od29 an29 : Option Addr} {sl29 : Array (Option Value)} {oc29 kV29 dc29 pm29 ct29 : Value} {cA29 pT29 : Addr}
    (a29 : PySem.W.nsIn K mainGlobals "in_order" = some (some (.ref f29))) (l29 : K.lookup f29 = some ⟨oc29, od29, .func (PySem.W.fnOf "in_order" "in_order" (defArgs s_in_order) (defBody s_in_order) (defScope s_in_order) .none kV29 dc29 pm29 an29 (.ref cA29) ct29), sl29⟩) (c29 : PySem.W.codeIn K (.ref cA29) "in_order" = true) (k29 : PySem.W.keepIn K (.ref f29) = true)
    {f30 : Addr} {od30 an30 : Option Addr} {sl30 : Array (Option Value)} {oc30 kV30 dc30 pm30 cd30 ct30 : Value}
    (a30 : PySem.W.nsIn K mainGlobals "sum_place_squares" = some (some (.ref f30))) (l30 : K.lookup f30 = some ⟨oc30, od30, .func (PySem.W.fnOf "sum_place_squares" "sum_place_squares" (defArgs s_sum_place_squares) (defBody s_sum_place_squares) (defScope s_sum_place_squares) .none kV30 dc30 pm30 an30 cd30 ct30), sl30⟩) (c30 : PySem.W.codeIn K cd30 "sum_place_squares" = true) (k30 : PySem.W.keepIn K (.ref f30) = true)
    {f31 : Addr} {od31 an31 : Option Addr} {sl31 : Array (Option Value)} {oc31 kV31 dc31 pm31 cd31 ct31 : Value}
    (a31 : PySem.W.nsIn K mainGlobals "sums_before_turning" = some (some (.ref f31))) (l31 : K.lookup f31 = some ⟨oc31, od31, .func (PySem.W.fnOf "sums_before_turning" "sums_before_turning" (defArgs s_sums_before_turning) (defBody s_sums_before_turning) (defScope s_sums_before_turning) .none kV31 dc31 pm31 an31 cd31 ct31), sl31⟩) (c31 : PySem.W.codeIn K cd31 "sums_before_turning" = true) (k31 : PySem.W.keepIn K (.ref f31) = true)
    {f32 : Addr} {od32 an32 : Option Addr} {sl32 : Array (Option Value)} {oc32 kV32 dc32 pm32 cd32 ct32 : Value}
    (a32 : PySem.W.nsIn K mainGlobals "sums_before_laying_off" = some (some (.ref f32))) (l32 : K.lookup f32 = some ⟨oc32, od32, .func (PySem.W.fnOf "sums_before_laying_off" "sums_before_laying_off" (defArgs s_sums_before_laying_off) (defBody s_sums_before_laying_off) (defScope s_sums_before_laying_off) .none kV32 dc32 pm32 an32 cd32 ct32), sl32⟩) (c32 : PySem.W.codeIn K cd32 "sums_before_laying_off" = true) (k32 : PySem.W.keepIn K (.ref f32) = true)
    {f33 : Addr} {od33 an33 : Option Addr} {sl33 : Array (Option Value)} {oc33 kV33 dc33 pm33 cd33 ct33 : Value}
    (a33 : PySem.W.nsIn K mainGlobals "part_sums" = some (some (.ref f33))) (l33 : K.lookup f33 = some ⟨oc33, od33, .func (PySem.W.fnOf "part_sums" "part_sums" (defArgs s_part_sums) (defBody s_part_sums) (defScope s_part_sums) .none kV33 dc33 pm33 an33 cd33 ct33), sl33⟩) (c33 : PySem.W.codeIn K cd33 "part_sums" = true) (k33 : PySem.W.keepIn K (.ref f33) = true)
    {f34 : Addr} {od34 an34 : Option Addr} {sl34 : Array (Option Value)} {oc34 kV34 dc34 pm34 cd34 ct34 : Value}
    (a34 : PySem.W.nsIn K mainGlobals "sum_squares" = some (some (.ref f34))) (l34 : K.lookup f34 = some ⟨oc34, od34, .func (PySem.W.fnOf "sum_squares" "sum_squares" (defArgs s_sum_squares) (defBody s_sum_squares) (defScope s_sum_squares) .none kV34 dc34 pm34 an34 cd34 ct34), sl34⟩) (c34 : PySem.W.codeIn K cd34 "sum_squares" = true) (k34 : PySem.W.keepIn K (.ref f34) = true)
    {f35 : Addr} {od35 an35 : Option Addr} {sl35 : Array (Option Value)} {oc35 kV35 dc35 pm35 cd35 ct35 : Value}
    (a35 : PySem.W.nsIn K mainGlobals "sum_placed" = some (some (.ref f35))) (l35 : K.lookup f35 = some ⟨oc35, od35, .func (PySem.W.fnOf "sum_placed" "sum_placed" (defArgs s_sum_placed) (defBody s_sum_placed) (defScope s_sum_placed) .none kV35 dc35 pm35 an35 cd35 ct35), sl35⟩) (c35 : PySem.W.codeIn K cd35 "sum_placed" = true) (k35 : PySem.W.keepIn K (.ref f35) = true)
    {f36 : Addr} {od36 an36 : Option Addr} {sl36 : Array (Option Value)} {oc36 kV36 dc36 pm36 cd36 ct36 : Value}
    (a36 : PySem.W.nsIn K mainGlobals "part_rows" = some (some (.ref f36))) (l36 : K.lookup f36 = some ⟨oc36, od36, .func (PySem.W.fnOf "part_rows" "part_rows" (defArgs s_part_rows) (defBody s_part_rows) (defScope s_part_rows) .none kV36 dc36 pm36 an36 cd36 ct36), sl36⟩) (c36 : PySem.W.codeIn K cd36 "part_rows" = true) (k36 : PySem.W.keepIn K (.ref f36) = true)
    {f37 : Addr} {od37 an37 : Option Addr} {sl37 : Array (Option Value)} {oc37 kV37 dc37 pm37 cd37 ct37 : Value}
    (a37 : PySem.W.nsIn K mainGlobals "rest_rows" = some (some (.ref f37))) (l37 : K.lookup f37 = some ⟨oc37, od37, .func (PySem.W.fnOf "rest_rows" "rest_rows" (defArgs s_rest_rows) (defBody s_rest_rows) (defScope s_rest_rows) .none kV37 dc37 pm37 an37 cd37 ct37), sl37⟩) (c37 : PySem.W.codeIn K cd37 "rest_rows" = true) (k37 : PySem.W.keepIn K (.ref f37) = true)
    {f38 : Addr} {od38 an38 : Option Addr} {sl38 : Array (Option Value)} {oc38 kV38 dc38 pm38 cd38 ct38 : Value}
    (a38 : PySem.W.nsIn K mainGlobals "sum_rows" = some (some (.ref f38))) (l38 : K.lookup f38 = some ⟨oc38, od38, .func (PySem.W.fnOf "sum_rows" "sum_rows" (defArgs s_sum_rows) (defBody s_sum_rows) (defScope s_sum_rows) .none kV38 dc38 pm38 an38 cd38 ct38), sl38⟩) (c38 : PySem.W.codeIn K cd38 "sum_rows" = true) (k38 : PySem.W.keepIn K (.ref f38) = true)
    {f39 : Addr} {od39 an39 : Option Addr} {sl39 : Array (Option Value)} {oc39 kV39 dc39 pm39 cd39 ct39 : Value}
    (a39 : PySem.W.nsIn K mainGlobals "rests_rows" = some (some (.ref f39))) (l39 : K.lookup f39 = some ⟨oc39, od39, .func (PySem.W.fnOf "rests_rows" "rests_rows" (defArgs s_rests_rows) (defBody s_rests_rows) (defScope s_rests_rows) .none kV39 dc39 pm39 an39 cd39 ct39), sl39⟩) (c39 : PySem.W.codeIn K cd39 "rests_rows" = true) (k39 : PySem.W.keepIn K (.ref f39) = true)
    {f40 : Addr} {od40 an40 : Option Addr} {sl40 : Array (Option Value)} {oc40 kV40 dc40 pm40 cd40 ct40 : Value}
    (a40 : PySem.W.nsIn K mainGlobals "squares_rows" = some (some (.ref f40))) (l40 : K.lookup f40 = some ⟨oc40, od40, .func (PySem.W.fnOf "squares_rows" "squares_rows" (defArgs s_squares_rows) (defBody s_squares_rows) (defScope s_squares_rows) .none kV40 dc40 pm40 an40 cd40 ct40), sl40⟩) (c40 : PySem.W.codeIn K cd40 "squares_rows" = true) (k40 : PySem.W.keepIn K (.ref f40) = true)
    {f41 : Addr} {od41 an41 : Option Addr} {sl41 : Array (Option Value)} {oc41 kV41 dc41 pm41 cd41 ct41 : Value}
    (a41 : PySem.W.nsIn K mainGlobals "placed_rows" = some (some (.ref f41))) (l41 : K.lookup f41 = some ⟨oc41, od41, .func (PySem.W.fnOf "placed_rows" "placed_rows" (defArgs s_placed_rows) (defBody s_placed_rows) (defScope s_placed_rows) .none kV41 dc41 pm41 an41 cd41 ct41), sl41⟩) (c41 : PySem.W.codeIn K cd41 "placed_rows" = true) (k41 : PySem.W.keepIn K (.ref f41) = true)
    {f42 : Addr} {od42 an42 : Option Addr} {sl42 : Array (Option Value)} {oc42 kV42 dc42 pm42 cd42 ct42 : Value}
    (a42 : PySem.W.nsIn K mainGlobals "between_rows" = some (some (.ref f42))) (l42 : K.lookup f42 = some ⟨oc42, od42, .func (PySem.W.fnOf "between_rows" "between_rows" (defArgs s_between_rows) (defBody s_between_rows) (defScope s_between_rows) .none kV42 dc42 pm42 an42 cd42 ct42), sl42⟩) (c42 : PySem.W.codeIn K cd42 "between_rows" = true) (k42 : PySem.W.keepIn K (.ref f42) = true)
    {f43 : Addr} {od43 an43 : Option Addr} {sl43 : Array (Option Value)} {oc43 kV43 dc43 pm43 cd43 ct43 : Value}
    (a43 : PySem.W.nsIn K mainGlobals "beneath_rows" = some (some (.ref f43))) (l43 : K.lookup f43 = some ⟨oc43, od43, .func (PySem.W.fnOf "beneath_rows" "beneath_rows" (defArgs s_beneath_rows) (defBody s_beneath_rows) (defScope s_beneath_rows) .none kV43 dc43 pm43 an43 cd43 ct43), sl43⟩) (c43 : PySem.W.codeIn K cd43 "beneath_rows" = true) (k43 : PySem.W.keepIn K (.ref f43) = true)
    {f44 : Addr} {od44 an44 : Option Addr} {sl44 : Array (Option Value)} {oc44 kV44 dc44 pm44 cd44 ct44 : Value}
    (a44 : PySem.W.nsIn K mainGlobals "within_rows" = some (some (.ref f44))) (l44 : K.lookup f44 = some ⟨oc44, od44, .func (PySem.W.fnOf "within_rows" "within_rows" (defArgs s_within_rows) (defBody s_within_rows) (defScope s_within_rows) .none kV44 dc44 pm44 an44 cd44 ct44), sl44⟩) (c44 : PySem.W.codeIn K cd44 "within_rows" = true) (k44 : PySem.W.keepIn K (.ref f44) = true)
    {f45 : Addr} {od45 an45 : Option Addr} {sl45 : Array (Option Value)} {oc45 kV45 dc45 pm45 cd45 ct45 : Value}
    (a45 : PySem.W.nsIn K mainGlobals "order_rows" = some (some (.ref f45))) (l45 : K.lookup f45 = some ⟨oc45, od45, .func (PySem.W.fnOf "order_rows" "order_rows" (defArgs s_order_rows) (defBody s_order_rows) (defScope s_order_rows) .none kV45 dc45 pm45 an45 cd45 ct45), sl45⟩) (c45 : PySem.W.codeIn K cd45 "order_rows" = true) (k45 : PySem.W.keepIn K (.ref f45) = true)
    {f46 : Addr} {od46 an46 : Option Addr} {sl46 : Array (Option Value)} {oc46 kV46 dc46 pm46 cd46 ct46 : Value}
    (a46 : PySem.W.nsIn K mainGlobals "paper_rows" = some (some (.ref f46))) (l46 : K.lookup f46 = some ⟨oc46, od46, .func (PySem.W.fnOf "paper_rows" "paper_rows" (defArgs s_paper_rows) (defBody s_paper_rows) (defScope s_paper_rows) .none kV46 dc46 pm46 an46 cd46 ct46), sl46⟩) (c46 : PySem.W.codeIn K cd46 "paper_rows" = true) (k46 : PySem.W.keepIn K (.ref f46) = true)
    {f47 : Addr} {od47 an47 : Option Addr} {sl47 : Array (Option Value)} {oc47 kV47 dc47 pm47 cd47 ct47 : Value}
    (a47 : PySem.W.nsIn K mainGlobals "check_name" = some (some (.ref f47))) (l47 : K.lookup f47 = some ⟨oc47, od47, .func (PySem.W.fnOf "check_name" "check_name" (defArgs s_check_name) (defBody s_check_name) (defScope s_check_name) .none kV47 dc47 pm47 an47 cd47 ct47), sl47⟩) (c47 : PySem.W.codeIn K cd47 "check_name" = true) (k47 : PySem.W.keepIn K (.ref f47) = true)
    {f48 : Addr} {od48 an48 : Option Addr} {sl48 : Array (Option Value)} {oc48 kV48 dc48 pm48 cd48 ct48 : Value}
    (a48 : PySem.W.nsIn K mainGlobals "read_number" = some (some (.ref f48))) (l48 : K.lookup f48 = some ⟨oc48, od48, .func (PySem.W.fnOf "read_number" "read_number" (defArgs s_read_number) (defBody s_read_number) (defScope s_read_number) .none kV48 dc48 pm48 an48 cd48 ct48), sl48⟩) (c48 : PySem.W.codeIn K cd48 "read_number" = true) (k48 : PySem.W.keepIn K (.ref f48) = true)
    {f49 : Addr} {od49 an49 : Option Addr} {sl49 : Array (Option Value)} {oc49 kV49 dc49 pm49 cd49 ct49 : Value}
    (a49 : PySem.W.nsIn K mainGlobals "read_count" = some (some (.ref f49))) (l49 : K.lookup f49 = some ⟨oc49, od49, .func (PySem.W.fnOf "read_count" "read_count" (defArgs s_read_count) (defBody s_read_count) (defScope s_read_count) .none kV49 dc49 pm49 an49 cd49 ct49), sl49⟩) (c49 : PySem.W.codeIn K cd49 "read_count" = true) (k49 : PySem.W.keepIn K (.ref f49) = true)
    {f50 : Addr} {od50 an50 : Option Addr} {sl50 : Array (Option Value)} {oc50 kV50 dc50 pm50 cd50 ct50 : Value}
    (a50 : PySem.W.nsIn K mainGlobals "read_numbers" = some (some (.ref f50))) (l50 : K.lookup f50 = some ⟨oc50, od50, .func (PySem.W.fnOf "read_numbers" "read_numbers" (defArgs s_read_numbers) (defBody s_read_numbers) (defScope s_read_numbers) .none kV50 dc50 pm50 an50 cd50 ct50), sl50⟩) (c50 : PySem.W.codeIn K cd50 "read_numbers" = true) (k50 : PySem.W.keepIn K (.ref f50) = true)
    {f51 : Addr} {od51 an51 : Option Addr} {sl51 : Array (Option Value)} {oc51 kV51 dc51 pm51 cd51 ct51 : Value}
    (a51 : PySem.W.nsIn K mainGlobals "parted_names" = some (some (.ref f51))) (l51 : K.lookup f51 = some ⟨oc51, od51, .func (PySem.W.fnOf "parted_names" "parted_names" (defArgs s_parted_names) (defBody s_parted_names) (defScope s_parted_names) .none kV51 dc51 pm51 an51 cd51 ct51), sl51⟩) (c51 : PySem.W.codeIn K cd51 "parted_names" = true) (k51 : PySem.W.keepIn K (.ref f51) = true)
    {f52 : Addr} {od52 an52 : Option Addr} {sl52 : Array (Option Value)} {oc52 kV52 dc52 pm52 cd52 ct52 : Value}
    (a52 : PySem.W.nsIn K mainGlobals "shown" = some (some (.ref f52))) (l52 : K.lookup f52 = some ⟨oc52, od52, .func (PySem.W.fnOf "shown" "shown" (defArgs s_shown) (defBody s_shown) (defScope s_shown) .none kV52 dc52 pm52 an52 cd52 ct52), sl52⟩) (c52 : PySem.W.codeIn K cd52 "shown" = true) (k52 : PySem.W.keepIn K (.ref f52) = true)
    {f53 : Addr} {od53 an53 : Option Addr} {sl53 : Array (Option Value)} {oc53 kV53 dc53 pm53 cd53 ct53 : Value}
    (a53 : PySem.W.findIn K (.ref C_Desk) "__init__" = some (some (.ref f53))) (i53 : PySem.W.isFn K (.ref f53) = true) (l53 : K.lookup f53 = some ⟨oc53, od53, .func (PySem.W.fnOf "__init__" "Desk.__init__" (defArgs s_Desk_init) (defBody s_Desk_init) (defScope s_Desk_init) .none kV53 dc53 pm53 an53 cd53 ct53), sl53⟩) (c53 : PySem.W.codeIn K cd53 "Desk.__init__" = true) (k53 : PySem.W.keepIn K (.ref f53) = true)
    {f54 : Addr} {od54 an54 : Option Addr} {sl54 : Array (Option Value)} {oc54 kV54 dc54 pm54 cd54 ct54 : Value}
    (a54 : PySem.W.findIn K (.ref C_Desk) "put_line" = some (some (.ref f54))) (i54 : PySem.W.isFn K (.ref f54) = true) (l54 : K.lookup f54 = some ⟨oc54, od54, .func (PySem.W.fnOf "put_line" "Desk.put_line" (defArgs s_Desk_put_line) (defBody s_Desk_put_line) (defScope s_Desk_put_line) .none kV54 dc54 pm54 an54 cd54 ct54), sl54⟩) (c54 : PySem.W.codeIn K cd54 "Desk.put_line" = true) (k54 : PySem.W.keepIn K (.ref f54) = true)
    {f55 : Addr} {od55 an55 : Option Addr} {sl55 : Array (Option Value)} {oc55 kV55 dc55 pm55 cd55 ct55 : Value}
    (a55 : PySem.W.findIn K (.ref C_Desk) "line_of" = some (some (.ref f55))) (i55 : PySem.W.isFn K (.ref f55) = true) (l55 : K.lookup f55 = some ⟨oc55, od55, .func (PySem.W.fnOf "line_of" "Desk.line_of" (defArgs s_Desk_line_of) (defBody s_Desk_line_of) (defScope s_Desk_line_of) .none kV55 dc55 pm55 an55 cd55 ct55), sl55⟩) (c55 : PySem.W.codeIn K cd55 "Desk.line_of" = true) (k55 : PySem.W.keepIn K (.ref f55) = true)
    {f56 : Addr} {od56 an56 : Option Addr} {sl56 : Array (Option Value)} {oc56 kV56 dc56 pm56 cd56 ct56 : Value}
    (a56 : PySem.W.findIn K (.ref C_Desk) "points_rows" = some (some (.ref f56))) (i56 : PySem.W.isFn K (.ref f56) = true) (l56 : K.lookup f56 = some ⟨oc56, od56, .func (PySem.W.fnOf "points_rows" "Desk.points_rows" (defArgs s_Desk_points_rows) (defBody s_Desk_points_rows) (defScope s_Desk_points_rows) .none kV56 dc56 pm56 an56 cd56 ct56), sl56⟩) (c56 : PySem.W.codeIn K cd56 "Desk.points_rows" = true) (k56 : PySem.W.keepIn K (.ref f56) = true)
    {f57 : Addr} {od57 an57 : Option Addr} {sl57 : Array (Option Value)} {oc57 kV57 dc57 pm57 cd57 ct57 : Value}
    (a57 : PySem.W.findIn K (.ref C_Desk) "rows_of_one" = some (some (.ref f57))) (i57 : PySem.W.isFn K (.ref f57) = true) (l57 : K.lookup f57 = some ⟨oc57, od57, .func (PySem.W.fnOf "rows_of_one" "Desk.rows_of_one" (defArgs s_Desk_rows_of_one) (defBody s_Desk_rows_of_one) (defScope s_Desk_rows_of_one) .none kV57 dc57 pm57 an57 cd57 ct57), sl57⟩) (c57 : PySem.W.codeIn K cd57 "Desk.rows_of_one" = true) (k57 : PySem.W.keepIn K (.ref f57) = true)
    {f58 : Addr} {od58 an58 : Option Addr} {sl58 : Array (Option Value)} {oc58 kV58 dc58 pm58 cd58 ct58 : Value}
    (a58 : PySem.W.findIn K (.ref C_Desk) "ask" = some (some (.ref f58))) (i58 : PySem.W.isFn K (.ref f58) = true) (l58 : K.lookup f58 = some ⟨oc58, od58, .func (PySem.W.fnOf "ask" "Desk.ask" (defArgs s_Desk_ask) (defBody s_Desk_ask) (defScope s_Desk_ask) .none kV58 dc58 pm58 an58 cd58 ct58), sl58⟩) (c58 : PySem.W.codeIn K cd58 "Desk.ask" = true) (k58 : PySem.W.keepIn K (.ref f58) = true)
    {f59 : Addr} {od59 an59 : Option Addr} {sl59 : Array (Option Value)} {oc59 kV59 dc59 pm59 cd59 ct59 : Value}
    (a59 : PySem.W.nsIn K mainGlobals "_law_draw" = some (some (.ref f59))) (l59 : K.lookup f59 = some ⟨oc59, od59, .func (PySem.W.fnOf "_law_draw" "_law_draw" (defArgs s__law_draw) (defBody s__law_draw) (defScope s__law_draw) .none kV59 dc59 pm59 an59 cd59 ct59), sl59⟩) (c59 : PySem.W.codeIn K cd59 "_law_draw" = true) (k59 : PySem.W.keepIn K (.ref f59) = true)
    {f60 : Addr} {od60 an60 : Option Addr} {sl60 : Array (Option Value)} {oc60 kV60 dc60 pm60 cd60 ct60 : Value}
    (a60 : PySem.W.nsIn K mainGlobals "_law_number" = some (some (.ref f60))) (l60 : K.lookup f60 = some ⟨oc60, od60, .func (PySem.W.fnOf "_law_number" "_law_number" (defArgs s__law_number) (defBody s__law_number) (defScope s__law_number) .none kV60 dc60 pm60 an60 cd60 ct60), sl60⟩) (c60 : PySem.W.codeIn K cd60 "_law_number" = true) (k60 : PySem.W.keepIn K (.ref f60) = true)
    {f61 : Addr} {od61 an61 : Option Addr} {sl61 : Array (Option Value)} {oc61 kV61 dc61 pm61 cd61 ct61 : Value}
    (a61 : PySem.W.nsIn K mainGlobals "_law_line" = some (some (.ref f61))) (l61 : K.lookup f61 = some ⟨oc61, od61, .func (PySem.W.fnOf "_law_line" "_law_line" (defArgs s__law_line) (defBody s__law_line) (defScope s__law_line) .none kV61 dc61 pm61 an61 cd61 ct61), sl61⟩) (c61 : PySem.W.codeIn K cd61 "_law_line" = true) (k61 : PySem.W.keepIn K (.ref f61) = true)
    {f62 : Addr} {od62 an62 : Option Addr} {sl62 : Array (Option Value)} {oc62 kV62 dc62 pm62 cd62 ct62 : Value}
    (a62 : PySem.W.nsIn K mainGlobals "_law_name" = some (some (.ref f62))) (l62 : K.lookup f62 = some ⟨oc62, od62, .func (PySem.W.fnOf "_law_name" "_law_name" (defArgs s__law_name) (defBody s__law_name) (defScope s__law_name) .none kV62 dc62 pm62 an62 cd62 ct62), sl62⟩) (c62 : PySem.W.codeIn K cd62 "_law_name" = true) (k62 : PySem.W.keepIn K (.ref f62) = true)
    {f63 : Addr} {od63 an63 : Option Addr} {sl63 : Array (Option Value)} {oc63 kV63 dc63 pm63 cd63 ct63 : Value}
    (a63 : PySem.W.nsIn K mainGlobals "_law_line_text" = some (some (.ref f63))) (l63 : K.lookup f63 = some ⟨oc63, od63, .func (PySem.W.fnOf "_law_line_text" "_law_line_text" (defArgs s__law_line_text) (defBody s__law_line_text) (defScope s__law_line_text) .none kV63 dc63 pm63 an63 cd63 ct63), sl63⟩) (c63 : PySem.W.codeIn K cd63 "_law_line_text" = true) (k63 : PySem.W.keepIn K (.ref f63) = true)
    {f64 : Addr} {od64 an64 : Option Addr} {sl64 : Array (Option Value)} {oc64 kV64 dc64 pm64 cd64 ct64 : Value}
    (a64 : PySem.W.nsIn K mainGlobals "_law_row" = some (some (.ref f64))) (l64 : K.lookup f64 = some ⟨oc64, od64, .func (PySem.W.fnOf "_law_row" "_law_row" (defArgs s__law_row) (defBody s__law_row) (defScope s__law_row) .none kV64 dc64 pm64 an64 cd64 ct64), sl64⟩) (c64 : PySem.W.codeIn K cd64 "_law_row" = true) (k64 : PySem.W.keepIn K (.ref f64) = true)
    {f65 : Addr} {od65 an65 : Option Addr} {sl65 : Array (Option Value)} {oc65 kV65 dc65 pm65 cd65 ct65 : Value}
    (a65 : PySem.W.nsIn K mainGlobals "_law_lines" = some (some (.ref f65))) (l65 : K.lookup f65 = some ⟨oc65, od65, .func (PySem.W.fnOf "_law_lines" "_law_lines" (defArgs s__law_lines) (defBody s__law_lines) (defScope s__law_lines) .none kV65 dc65 pm65 an65 cd65 ct65), sl65⟩) (c65 : PySem.W.codeIn K cd65 "_law_lines" = true) (k65 : PySem.W.keepIn K (.ref f65) = true)
    {f66 : Addr} {od66 an66 : Option Addr} {sl66 : Array (Option Value)} {oc66 kV66 dc66 pm66 cd66 ct66 : Value}
    (a66 : PySem.W.nsIn K mainGlobals "_law_told_right" = some (some (.ref f66))) (l66 : K.lookup f66 = some ⟨oc66, od66, .func (PySem.W.fnOf "_law_told_right" "_law_told_right" (defArgs s__law_told_right) (defBody s__law_told_right) (defScope s__law_told_right) .none kV66 dc66 pm66 an66 cd66 ct66), sl66⟩) (c66 : PySem.W.codeIn K cd66 "_law_told_right" = true) (k66 : PySem.W.keepIn K (.ref f66) = true)
    {f67 : Addr} {od67 an67 : Option Addr} {sl67 : Array (Option Value)} {oc67 kV67 dc67 pm67 cd67 ct67 : Value}
    (a67 : PySem.W.nsIn K mainGlobals "law" = some (some (.ref f67))) (l67 : K.lookup f67 = some ⟨oc67, od67, .func (PySem.W.fnOf "law" "law" (defArgs s_law) (defBody s_law) (defScope s_law) .none kV67 dc67 pm67 an67 cd67 ct67), sl67⟩) (c67 : PySem.W.codeIn K cd67 "law" = true) (k67 : PySem.W.keepIn K (.ref f67) = true)
    (z_abs : PySem.W.nsIn K mainGlobals "abs" = some none)
    (z_divmod : PySem.W.nsIn K mainGlobals "divmod" = some none)
    (z_enumerate : PySem.W.nsIn K mainGlobals "enumerate" = some none)
    (z_int : PySem.W.nsIn K mainGlobals "int" = some none)
    (z_len : PySem.W.nsIn K mainGlobals "len" = some none)
    (z_list : PySem.W.nsIn K mainGlobals "list" = some none)
    (z_max : PySem.W.nsIn K mainGlobals "max" = some none)
    (z_min : PySem.W.nsIn K mainGlobals "min" = some none)
    (z_range : PySem.W.nsIn K mainGlobals "range" = some none)
    (z_reversed : PySem.W.nsIn K mainGlobals "reversed" = some none)
    (z_str : PySem.W.nsIn K mainGlobals "str" = some none)
    (z_tuple : PySem.W.nsIn K mainGlobals "tuple" = some none)
    (z_zip : PySem.W.nsIn K mainGlobals "zip" = some none)
    {t_MOST_FIGURES : Tok} (a_MOST_FIGURES : PySem.W.nsIn K mainGlobals "MOST_FIGURES" = some (some (.int 60 t_MOST_FIGURES)))
    {t_MOST_LETTERS : Tok} (a_MOST_LETTERS : PySem.W.nsIn K mainGlobals "MOST_LETTERS" = some (some (.int 8 t_MOST_LETTERS)))
    {t_MOST_NAMES : Tok} (a_MOST_NAMES : PySem.W.nsIn K mainGlobals "MOST_NAMES" = some (some (.int 4 t_MOST_NAMES)))
    {D_FORMS : Addr} (a_FORMS : PySem.W.nsIn K mainGlobals "FORMS" = some (some (.ref D_FORMS)))
    (w_FORMS : He.dicW K D_FORMS = some (He.keysIn w.params ["part", "rest", "sum", "rests", "squares", "placed", "between", "beneath", "within", "order", "paper"]))
    {t_F_part : Tok} (q_F_part : PySem.W.nsIn K D_FORMS "part" = some (some (.str "X" t_F_part)))
    {t_F_rest : Tok} (q_F_rest : PySem.W.nsIn K D_FORMS "rest" = some (some (.str "X" t_F_rest)))
    {t_F_sum : Tok} (q_F_sum : PySem.W.nsIn K D_FORMS "sum" = some (some (.str "N" t_F_sum)))
    {t_F_rests : Tok} (q_F_rests : PySem.W.nsIn K D_FORMS "rests" = some (some (.str "N" t_F_rests)))
    {t_F_squares : Tok} (q_F_squares : PySem.W.nsIn K D_FORMS "squares" = some (some (.str "N" t_F_squares)))
    {t_F_placed : Tok} (q_F_placed : PySem.W.nsIn K D_FORMS "placed" = some (some (.str "N" t_F_placed)))
    {t_F_between : Tok} (q_F_between : PySem.W.nsIn K D_FORMS "between" = some (some (.str "XX" t_F_between)))
    {t_F_beneath : Tok} (q_F_beneath : PySem.W.nsIn K D_FORMS "beneath" = some (some (.str "NX" t_F_beneath)))
    {t_F_within : Tok} (q_F_within : PySem.W.nsIn K D_FORMS "within" = some (some (.str "XX" t_F_within)))
    {t_F_order : Tok} (q_F_order : PySem.W.nsIn K D_FORMS "order" = some (some (.str "NX" t_F_order)))
    {t_F_paper : Tok} (q_F_paper : PySem.W.nsIn K D_FORMS "paper" = some (some (.str "N" t_F_paper)))
    {D_ANSWERS : Addr} (a_ANSWERS : PySem.W.nsIn K mainGlobals "ANSWERS" = some (some (.ref D_ANSWERS)))
    (w_ANSWERS : He.dicW K D_ANSWERS = some (He.keysIn w.params ["part", "rest", "sum", "rests", "squares", "placed", "between", "beneath", "within", "order", "paper"]))
    (q_A_part : PySem.W.nsIn K D_ANSWERS "part" = some (some (.ref f36)))
    (q_A_rest : PySem.W.nsIn K D_ANSWERS "rest" = some (some (.ref f37)))
    (q_A_sum : PySem.W.nsIn K D_ANSWERS "sum" = some (some (.ref f38)))
    (q_A_rests : PySem.W.nsIn K D_ANSWERS "rests" = some (some (.ref f39)))
    (q_A_squares : PySem.W.nsIn K D_ANSWERS "squares" = some (some (.ref f40)))
    (q_A_placed : PySem.W.nsIn K D_ANSWERS "placed" = some (some (.ref f41)))
    (q_A_between : PySem.W.nsIn K D_ANSWERS "between" = some (some (.ref f42)))
    (q_A_beneath : PySem.W.nsIn K D_ANSWERS "beneath" = some (some (.ref f43)))
    (q_A_within : PySem.W.nsIn K D_ANSWERS "within" = some (some (.ref f44)))
    (q_A_order : PySem.W.nsIn K D_ANSWERS "order" = some (some (.ref f45)))
    (q_A_paper : PySem.W.nsIn K D_ANSWERS "paper" = some (some (.ref f46)))
    (nd_tab : [f36, f37, f38, f39, f40, f41, f42, f43, f44, f45, f46].Nodup)
    (tab : h.get? pT29 = some { cls := .none, data := .fields #[] }) (ntab : K.lookup pT29 = none) (ctab : PySem.W.codeHdIn K cA29 pT29 = true)
    : LamX.LawAtS l w K CX0 14 63 "script" mg fa h := by
  have e := hfa.symm.trans (PySem.W.mg_of X G a67)
  cases e
  refine ⟨PySem.W.fnOf "law" "law" (defArgs s_law) (defBody s_law) (defScope s_law) .none kV67 dc67 pm67 an67 cd67 ct67, [(cA29, pT29)], sp_law K pT29, fun p hp => ?_, fun p hp => ?_, fun p hp => ?_, fun s v => .of_eq rfl, fun H a ns hl _ hH hS => ⟨a, ns, rfl, hS, hl, LamX.TabS.nil (hH _ List.mem_cons_self), fun _ => rfl⟩, fun base _ _ TB => ?_⟩
  · rw [List.mem_singleton.mp hp]
    exact tab
  · rw [List.mem_singleton.mp hp]
    exact ntab
  · rw [List.mem_singleton.mp hp]
    exact PySem.W.codeHd_of_K X ctab
  obtain ⟨es_FORMS, ne_FORMS, kd_FORMS⟩ := He.dicW_ok w_FORMS
  obtain ⟨es_ANSWERS, ne_ANSWERS, kd_ANSWERS⟩ := He.dicW_ok w_ANSWERS
  let T : Top w K mg base := ⟨f0, _, fun_mk (st := s_check_line) l0 c0 k0, PySem.W.mg_of X G a0,
    f1, _, fun_mk (st := s_height_at) l1 c1 k1, PySem.W.mg_of X G a1,
    f2, _, fun_mk (st := s_part_at) l2 c2 k2, PySem.W.mg_of X G a2,
    f3, _, fun_mk (st := s_rest_at) l3 c3 k3, PySem.W.mg_of X G a3,
    f4, _, fun_mk (st := s_laid_off) l4 c4 k4, PySem.W.mg_of X G a4,
    f5, _, fun_mk (st := s_turned) l5 c5 k5, PySem.W.mg_of X G a5,
    f6, _, fun_mk (st := s_is_number) l6 c6 k6, PySem.W.mg_of X G a6,
    f7, _, fun_mk (st := s_check_stretch) l7 c7 k7, PySem.W.mg_of X G a7,
    f8, _, fun_mk (st := s_sum_places) l8 c8 k8, PySem.W.mg_of X G a8,
    f9, _, fun_mk (st := s_sum_parts) l9 c9 k9, PySem.W.mg_of X G a9,
    f10, _, fun_mk (st := s_sum_rests) l10 c10 k10, PySem.W.mg_of X G a10,
    f11, _, fun_mk (st := s_sum_between) l11 c11 k11, PySem.W.mg_of X G a11,
    f12, _, fun_mk (st := s_paper_steps) l12 c12 k12, PySem.W.mg_of X G a12,
    f13, _, fun_mk (st := s_sum_paper) l13 c13 k13, PySem.W.mg_of X G a13,
    f14, _, fun_mk (st := s_rounded_up) l14 c14 k14, PySem.W.mg_of X G a14,
    f15, _, fun_mk (st := s_common_measure) l15 c15 k15, PySem.W.mg_of X G a15,
    f16, _, fun_mk (st := s_first_such) l16 c16 k16, PySem.W.mg_of X G a16,
    f17, _, fun_mk (st := s_check_between) l17 c17 k17, PySem.W.mg_of X G a17,
    f18, _, fun_mk (st := s_kept) l18 c18 k18, PySem.W.mg_of X G a18,
    f19, _, fun_mk (st := s_kept_no_higher) l19 c19 k19, PySem.W.mg_of X G a19,
    f20, _, fun_mk (st := s_stretch_between) l20 c20 k20, PySem.W.mg_of X G a20,
    f21, _, fun_mk (st := s_stretch_of_least) l21 c21 k21, PySem.W.mg_of X G a21,
    f22, _, fun_mk (st := s_sum_least) l22 c22 k22, PySem.W.mg_of X G a22,
    f23, _, fun_mk (st := s_upside_down) l23 c23 k23, PySem.W.mg_of X G a23,
    f24, _, fun_mk (st := s_count_points) l24 c24 k24, PySem.W.mg_of X G a24,
    f25, _, fun_mk (st := s_points_between) l25 c25 k25, PySem.W.mg_of X G a25,
    f26, _, fun_mk (st := s_rests_beneath) l26 c26 k26, PySem.W.mg_of X G a26,
    f27, _, fun_mk (st := s_first_multiple) l27 c27 k27, PySem.W.mg_of X G a27,
    f28, _, fun_mk (st := s_first_within) l28 c28 k28, PySem.W.mg_of X G a28,
    f29, _, fun_mk (st := s_in_order) l29 c29 k29, PySem.W.mg_of X G a29,
    f30, _, fun_mk (st := s_sum_place_squares) l30 c30 k30, PySem.W.mg_of X G a30,
    f31, _, fun_mk (st := s_sums_before_turning) l31 c31 k31, PySem.W.mg_of X G a31,
    f32, _, fun_mk (st := s_sums_before_laying_off) l32 c32 k32, PySem.W.mg_of X G a32,
    f33, _, fun_mk (st := s_part_sums) l33 c33 k33, PySem.W.mg_of X G a33,
    f34, _, fun_mk (st := s_sum_squares) l34 c34 k34, PySem.W.mg_of X G a34,
    f35, _, fun_mk (st := s_sum_placed) l35 c35 k35, PySem.W.mg_of X G a35,
    f36, _, fun_mk (st := s_part_rows) l36 c36 k36, PySem.W.mg_of X G a36,
    f37, _, fun_mk (st := s_rest_rows) l37 c37 k37, PySem.W.mg_of X G a37,
    f38, _, fun_mk (st := s_sum_rows) l38 c38 k38, PySem.W.mg_of X G a38,
    f39, _, fun_mk (st := s_rests_rows) l39 c39 k39, PySem.W.mg_of X G a39,
    f40, _, fun_mk (st := s_squares_rows) l40 c40 k40, PySem.W.mg_of X G a40,
    f41, _, fun_mk (st := s_placed_rows) l41 c41 k41, PySem.W.mg_of X G a41,
    f42, _, fun_mk (st := s_between_rows) l42 c42 k42, PySem.W.mg_of X G a42,
    f43, _, fun_mk (st := s_beneath_rows) l43 c43 k43, PySem.W.mg_of X G a43,
    f44, _, fun_mk (st := s_within_rows) l44 c44 k44, PySem.W.mg_of X G a44,
    f45, _, fun_mk (st := s_order_rows) l45 c45 k45, PySem.W.mg_of X G a45,
    f46, _, fun_mk (st := s_paper_rows) l46 c46 k46, PySem.W.mg_of X G a46,
    f47, _, fun_mk (st := s_check_name) l47 c47 k47, PySem.W.mg_of X G a47,
    f48, _, fun_mk (st := s_read_number) l48 c48 k48, PySem.W.mg_of X G a48,
    f49, _, fun_mk (st := s_read_count) l49 c49 k49, PySem.W.mg_of X G a49,
    f50, _, fun_mk (st := s_read_numbers) l50 c50 k50, PySem.W.mg_of X G a50,
    f51, _, fun_mk (st := s_parted_names) l51 c51 k51, PySem.W.mg_of X G a51,
    f52, _, fun_mk (st := s_shown) l52 c52 k52, PySem.W.mg_of X G a52,
    f53, _, fun_mk (st := s_Desk_init) l53 c53 k53,
    f54, _, fun_mk (st := s_Desk_put_line) l54 c54 k54,
    f55, _, fun_mk (st := s_Desk_line_of) l55 c55 k55,
    f56, _, fun_mk (st := s_Desk_points_rows) l56 c56 k56,
    f57, _, fun_mk (st := s_Desk_rows_of_one) l57 c57 k57,
    f58, _, fun_mk (st := s_Desk_ask) l58 c58 k58,
    f59, _, fun_mk (st := s__law_draw) l59 c59 k59, PySem.W.mg_of X G a59,
    f60, _, fun_mk (st := s__law_number) l60 c60 k60, PySem.W.mg_of X G a60,
    f61, _, fun_mk (st := s__law_line) l61 c61 k61, PySem.W.mg_of X G a61,
    f62, _, fun_mk (st := s__law_name) l62 c62 k62, PySem.W.mg_of X G a62,
    f63, _, fun_mk (st := s__law_line_text) l63 c63 k63, PySem.W.mg_of X G a63,
    f64, _, fun_mk (st := s__law_row) l64 c64 k64, PySem.W.mg_of X G a64,
    f65, _, fun_mk (st := s__law_lines) l65 c65 k65, PySem.W.mg_of X G a65,
    f66, _, fun_mk (st := s__law_told_right) l66 c66 k66, PySem.W.mg_of X G a66,
    fa, _, fun_mk (st := s_law) l67 c67 k67, PySem.W.mg_of X G a67,
    C_Desk, PySem.W.mg_of X G aC_Desk, ⟨pg_Desk, hd_Desk, po_Desk, sa_Desk⟩,
    na_lines,
    ⟨mk_Desk, a53, i53, kc_Desk⟩,
    ⟨a54, i54, k54⟩,
    ⟨a55, i55, k55⟩,
    ⟨a56, i56, k56⟩,
    ⟨a57, i57, k57⟩,
    ⟨a58, i58, k58⟩,
    PySem.W.mg_none_of X G z_abs,
    PySem.W.mg_none_of X G z_divmod,
    PySem.W.mg_none_of X G z_enumerate,
    PySem.W.mg_none_of X G z_int,
    PySem.W.mg_none_of X G z_len,
    PySem.W.mg_none_of X G z_list,
    PySem.W.mg_none_of X G z_max,
    PySem.W.mg_none_of X G z_min,
    PySem.W.mg_none_of X G z_range,
    PySem.W.mg_none_of X G z_reversed,
    PySem.W.mg_none_of X G z_str,
    PySem.W.mg_none_of X G z_tuple,
    PySem.W.mg_none_of X G z_zip,
    .int 60 t_MOST_FIGURES, PySem.W.mg_of X G a_MOST_FIGURES, ⟨t_MOST_FIGURES, rfl⟩,
    .int 8 t_MOST_LETTERS, PySem.W.mg_of X G a_MOST_LETTERS, ⟨t_MOST_LETTERS, rfl⟩,
    .int 4 t_MOST_NAMES, PySem.W.mg_of X G a_MOST_NAMES, ⟨t_MOST_NAMES, rfl⟩,
    D_FORMS, PySem.W.mg_of X G a_FORMS, es_FORMS, ne_FORMS, kd_FORMS,
    ⟨t_F_part, q_F_part⟩,
    ⟨t_F_rest, q_F_rest⟩,
    ⟨t_F_sum, q_F_sum⟩,
    ⟨t_F_rests, q_F_rests⟩,
    ⟨t_F_squares, q_F_squares⟩,
    ⟨t_F_placed, q_F_placed⟩,
    ⟨t_F_between, q_F_between⟩,
    ⟨t_F_beneath, q_F_beneath⟩,
    ⟨t_F_within, q_F_within⟩,
    ⟨t_F_order, q_F_order⟩,
    ⟨t_F_paper, q_F_paper⟩,
    D_ANSWERS, PySem.W.mg_of X G a_ANSWERS, es_ANSWERS, ne_ANSWERS, kd_ANSWERS,
    q_A_part,
    q_A_rest,
    q_A_sum,
    q_A_rests,
    q_A_squares,
    q_A_placed,
    q_A_between,
    q_A_beneath,
    q_A_within,
    q_A_order,
    q_A_paper,
    nd_tab,
    cA29, pT29, rfl, TB _ List.mem_cons_self⟩
  exact ok_law T
end Tz
open PySem PySem.W PyProof.Rows
set_option maxHeartbeats 0 in
theorem PySem.Challenge.cw_turnedline_k37_desk_great_lines_holds : PySem.Challenge.rw_turnedline_k37_desk_great_lines.Holds := by
  w_on; o_law; k_head; (case hw => w_witness2)
  k_fill
  refine LamX.walk_ofTs (l := PySem.Challenge.rw_turnedline_k37_desk_great_lines) (n := 63) (k := 14) (x := "script") (CX := fun _ => L2.CX0) rfl (by decide) rfl ⟨rfl, by decide, by decide⟩ (fun w h Y => PySem.W.km_in_of Y) ?F (fun _ _ _ _ _ h => h)
  case F =>
    intro w mg fa h Y KX G hmg
    refine' Tz.all_mk KX G hmg ?aC_Desk ?pg_Desk ?hd_Desk ?po_Desk ?sa_Desk ?mk_Desk ?kc_Desk ?na_lines ?a0 ?l0 ?c0 ?k0 ?a1 ?l1 ?c1 ?k1 ?a2 ?l2 ?c2 ?k2 ?a3 ?l3 ?c3 ?k3 ?a4 ?l4 ?c4 ?k4 ?a5 ?l5 ?c5 ?k5 ?a6 ?l6 ?c6 ?k6 ?a7 ?l7 ?c7 ?k7 ?a8 ?l8 ?c8 ?k8 ?a9 ?l9 ?c9 ?k9 ?a10 ?l10 ?c10 ?k10 ?a11 ?l11 ?c11 ?k11 ?a12 ?l12 ?c12 ?k12 ?a13 ?l13 ?c13 ?k13 ?a14 ?l14 ?c14 ?k14 ?a15 ?l15 ?c15 ?k15 ?a16 ?l16 ?c16 ?k16 ?a17 ?l17 ?c17 ?k17 ?a18 ?l18 ?c18 ?k18 ?a19 ?l19 ?c19 ?k19 ?a20 ?l20 ?c20 ?k20 ?a21 ?l21 ?c21 ?k21 ?a22 ?l22 ?c22 ?k22 ?a23 ?l23 ?c23 ?k23 ?a24 ?l24 ?c24 ?k24 ?a25 ?l25 ?c25 ?k25 ?a26 ?l26 ?c26 ?k26 ?a27 ?l27 ?c27 ?k27 ?a28 ?l28 ?c28 ?k28 ?a29 ?l29 ?c29 ?k29 ?a30 ?l30 ?c30 ?k30 ?a31 ?l31 ?c31 ?k31 ?a32 ?l32 ?c32 ?k32 ?a33 ?l33 ?c33 ?k33 ?a34 ?l34 ?c34 ?k34 ?a35 ?l35 ?c35 ?k35 ?a36 ?l36 ?c36 ?k36 ?a37 ?l37 ?c37 ?k37 ?a38 ?l38 ?c38 ?k38 ?a39 ?l39 ?c39 ?k39 ?a40 ?l40 ?c40 ?k40 ?a41 ?l41 ?c41 ?k41 ?a42 ?l42 ?c42 ?k42 ?a43 ?l43 ?c43 ?k43 ?a44 ?l44 ?c44 ?k44 ?a45 ?l45 ?c45 ?k45 ?a46 ?l46 ?c46 ?k46 ?a47 ?l47 ?c47 ?k47 ?a48 ?l48 ?c48 ?k48 ?a49 ?l49 ?c49 ?k49 ?a50 ?l50 ?c50 ?k50 ?a51 ?l51 ?c51 ?k51 ?a52 ?l52 ?c52 ?k52 ?a53 ?i53 ?l53 ?c53 ?k53 ?a54 ?i54 ?l54 ?c54 ?k54 ?a55 ?i55 ?l55 ?c55 ?k55 ?a56 ?i56 ?l56 ?c56 ?k56 ?a57 ?i57 ?l57 ?c57 ?k57 ?a58 ?i58 ?l58 ?c58 ?k58 ?a59 ?l59 ?c59 ?k59 ?a60 ?l60 ?c60 ?k60 ?a61 ?l61 ?c61 ?k61 ?a62 ?l62 ?c62 ?k62 ?a63 ?l63 ?c63 ?k63 ?a64 ?l64 ?c64 ?k64 ?a65 ?l65 ?c65 ?k65 ?a66 ?l66 ?c66 ?k66 ?a67 ?l67 ?c67 ?k67 ?z_abs ?z_divmod ?z_enumerate ?z_int ?z_len ?z_list ?z_max ?z_min ?z_range ?z_reversed ?z_str ?z_tuple ?z_zip ?a_MOST_FIGURES ?a_MOST_LETTERS ?a_MOST_NAMES ?a_FORMS ?w_FORMS ?q_F_part ?q_F_rest ?q_F_sum ?q_F_rests ?q_F_squares ?q_F_placed ?q_F_between ?q_F_beneath ?q_F_within ?q_F_order ?q_F_paper ?a_ANSWERS ?w_ANSWERS ?q_A_part ?q_A_rest ?q_A_sum ?q_A_rests ?q_A_squares ?q_A_placed ?q_A_between ?q_A_beneath ?q_A_within ?q_A_order ?q_A_paper ?nd_tab ?tab ?ntab ?ctab
    (case tab => exact PySem.W.km_tabs_of Y _ List.mem_cons_self); (case aC_Desk => k_is); (case pg_Desk => k_is); (case hd_Desk => k_is); (case po_Desk => k_is); (case sa_Desk => k_is); (case mk_Desk => k_is); (case kc_Desk => k_is); (case na_lines => k_is); (case a0 => k_is); (case l0 => k_is); (case c0 => k_is); (case k0 => k_is); (case a1 => k_is); (case l1 => k_is); (case c1 => k_is); (case k1 => k_is); (case a2 => k_is); (case l2 => k_is); (case c2 => k_is); (case k2 => k_is); (case a3 => k_is); (case l3 => k_is); (case c3 => k_is); (case k3 => k_is); (case a4 => k_is); (case l4 => k_is); (case c4 => k_is); (case k4 => k_is); (case a5 => k_is); (case l5 => k_is); (case c5 => k_is); (case k5 => k_is); (case a6 => k_is); (case l6 => k_is); (case c6 => k_is); (case k6 => k_is); (case a7 => k_is); (case l7 => k_is); (case c7 => k_is); (case k7 => k_is); (case a8 => k_is); (case l8 => k_is); (case c8 => k_is); (case k8 => k_is); (case a9 => k_is); (case l9 => k_is); (case c9 => k_is); (case k9 => k_is); (case a10 => k_is); (case l10 => k_is); (case c10 => k_is); (case k10 => k_is); (case a11 => k_is); (case l11 => k_is); (case c11 => k_is); (case k11 => k_is); (case a12 => k_is); (case l12 => k_is); (case c12 => k_is); (case k12 => k_is); (case a13 => k_is); (case l13 => k_is); (case c13 => k_is); (case k13 => k_is); (case a14 => k_is); (case l14 => k_is); (case c14 => k_is); (case k14 => k_is); (case a15 => k_is); (case l15 => k_is); (case c15 => k_is); (case k15 => k_is); (case a16 => k_is); (case l16 => k_is); (case c16 => k_is); (case k16 => k_is); (case a17 => k_is); (case l17 => k_is); (case c17 => k_is); (case k17 => k_is); (case a18 => k_is); (case l18 => k_is); (case c18 => k_is); (case k18 => k_is); (case a19 => k_is); (case l19 => k_is); (case c19 => k_is); (case k19 => k_is); (case a20 => k_is); (case l20 => k_is); (case c20 => k_is); (case k20 => k_is); (case a21 => k_is); (case l21 => k_is); (case c21 => k_is); (case k21 => k_is); (case a22 => k_is); (case l22 => k_is); (case c22 => k_is); (case k22 => k_is); (case a23 => k_is); (case l23 => k_is); (case c23 => k_is); (case k23 => k_is); (case a24 => k_is); (case l24 => k_is); (case c24 => k_is); (case k24 => k_is); (case a25 => k_is); (case l25 => k_is); (case c25 => k_is); (case k25 => k_is); (case a26 => k_is); (case l26 => k_is); (case c26 => k_is); (case k26 => k_is); (case a27 => k_is); (case l27 => k_is); (case c27 => k_is); (case k27 => k_is); (case a28 => k_is); (case l28 => k_is); (case c28 => k_is); (case k28 => k_is); (case a29 => k_is); (case l29 => k_is); (case c29 => k_is); (case k29 => k_is); (case a30 => k_is); (case l30 => k_is); (case c30 => k_is); (case k30 => k_is); (case a31 => k_is); (case l31 => k_is); (case c31 => k_is); (case k31 => k_is); (case a32 => k_is); (case l32 => k_is); (case c32 => k_is); (case k32 => k_is); (case a33 => k_is); (case l33 => k_is); (case c33 => k_is); (case k33 => k_is); (case a34 => k_is); (case l34 => k_is); (case c34 => k_is); (case k34 => k_is); (case a35 => k_is); (case l35 => k_is); (case c35 => k_is); (case k35 => k_is); (case a36 => k_is); (case l36 => k_is); (case c36 => k_is); (case k36 => k_is); (case a37 => k_is); (case l37 => k_is); (case c37 => k_is); (case k37 => k_is); (case a38 => k_is); (case l38 => k_is); (case c38 => k_is); (case k38 => k_is); (case a39 => k_is); (case l39 => k_is); (case c39 => k_is); (case k39 => k_is); (case a40 => k_is); (case l40 => k_is); (case c40 => k_is); (case k40 => k_is); (case a41 => k_is); (case l41 => k_is); (case c41 => k_is); (case k41 => k_is); (case a42 => k_is); (case l42 => k_is); (case c42 => k_is); (case k42 => k_is); (case a43 => k_is); (case l43 => k_is); (case c43 => k_is); (case k43 => k_is); (case a44 => k_is); (case l44 => k_is); (case c44 => k_is); (case k44 => k_is); (case a45 => k_is); (case l45 => k_is); (case c45 => k_is); (case k45 => k_is); (case a46 => k_is); (case l46 => k_is); (case c46 => k_is); (case k46 => k_is); (case a47 => k_is); (case l47 => k_is); (case c47 => k_is); (case k47 => k_is); (case a48 => k_is); (case l48 => k_is); (case c48 => k_is); (case k48 => k_is); (case a49 => k_is); (case l49 => k_is); (case c49 => k_is); (case k49 => k_is); (case a50 => k_is); (case l50 => k_is); (case c50 => k_is); (case k50 => k_is); (case a51 => k_is); (case l51 => k_is); (case c51 => k_is); (case k51 => k_is); (case a52 => k_is); (case l52 => k_is); (case c52 => k_is); (case k52 => k_is); (case a53 => k_is); (case i53 => k_is); (case l53 => k_is); (case c53 => k_is); (case k53 => k_is); (case a54 => k_is); (case i54 => k_is); (case l54 => k_is); (case c54 => k_is); (case k54 => k_is); (case a55 => k_is); (case i55 => k_is); (case l55 => k_is); (case c55 => k_is); (case k55 => k_is); (case a56 => k_is); (case i56 => k_is); (case l56 => k_is); (case c56 => k_is); (case k56 => k_is); (case a57 => k_is); (case i57 => k_is); (case l57 => k_is); (case c57 => k_is); (case k57 => k_is); (case a58 => k_is); (case i58 => k_is); (case l58 => k_is); (case c58 => k_is); (case k58 => k_is); (case a59 => k_is); (case l59 => k_is); (case c59 => k_is); (case k59 => k_is); (case a60 => k_is); (case l60 => k_is); (case c60 => k_is); (case k60 => k_is); (case a61 => k_is); (case l61 => k_is); (case c61 => k_is); (case k61 => k_is); (case a62 => k_is); (case l62 => k_is); (case c62 => k_is); (case k62 => k_is); (case a63 => k_is); (case l63 => k_is); (case c63 => k_is); (case k63 => k_is); (case a64 => k_is); (case l64 => k_is); (case c64 => k_is); (case k64 => k_is); (case a65 => k_is); (case l65 => k_is); (case c65 => k_is); (case k65 => k_is); (case a66 => k_is); (case l66 => k_is); (case c66 => k_is); (case k66 => k_is); (case a67 => k_is); (case l67 => k_is); (case c67 => k_is); (case k67 => k_is); (case z_abs => k_is); (case z_divmod => k_is); (case z_enumerate => k_is); (case z_int => k_is); (case z_len => k_is); (case z_list => k_is); (case z_max => k_is); (case z_min => k_is); (case z_range => k_is); (case z_reversed => k_is); (case z_str => k_is); (case z_tuple => k_is); (case z_zip => k_is); (case a_MOST_FIGURES => k_is); (case a_MOST_LETTERS => k_is); (case a_MOST_NAMES => k_is); (case a_FORMS => k_is); (case w_FORMS => kernel_rfl); (case q_F_part => k_is); (case q_F_rest => k_is); (case q_F_sum => k_is); (case q_F_rests => k_is); (case q_F_squares => k_is); (case q_F_placed => k_is); (case q_F_between => k_is); (case q_F_beneath => k_is); (case q_F_within => k_is); (case q_F_order => k_is); (case q_F_paper => k_is); (case a_ANSWERS => k_is); (case w_ANSWERS => kernel_rfl); (case q_A_part => k_is); (case q_A_rest => k_is); (case q_A_sum => k_is); (case q_A_rests => k_is); (case q_A_squares => k_is); (case q_A_placed => k_is); (case q_A_between => k_is); (case q_A_beneath => k_is); (case q_A_within => k_is); (case q_A_order => k_is); (case q_A_paper => k_is); (case nd_tab => decide); (case ntab => kernel_rfl); (case ctab => kernel_rfl)
